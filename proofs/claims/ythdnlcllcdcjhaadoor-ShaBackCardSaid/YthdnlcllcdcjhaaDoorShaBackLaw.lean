/-
  ShaBack: what Hex tells is parsed as it, with great letters too.
-/
import Derived.Test.YthdnlcllcdcjhaaDoorShaKeeps
namespace Go.Proofs.YthdnlcllcdcjhaaDoor
open Go.RowKit
theorem and63 (n : Int) : bits .and .i64 n 63 = n % 64 := by
  have h63 : (BitVec.ofInt 64 63).toNat = 2 ^ 6 - 1 := by decide
  have key : (BitVec.ofInt 64 n &&& BitVec.ofInt 64 63).toNat = (n % ((2 ^ 64 : Nat) : Int)).toNat % 2 ^ 6 := by
    rw [BitVec.toNat_and, BitVec.toNat_ofInt, h63, Nat.and_two_pow_sub_one_eq_mod]
  show IntKind.i64.wrap ((BitVec.ofInt 64 n &&& BitVec.ofInt 64 63).toNat : Nat) = n % 64
  rw [key, IntKind.wrap_i64]
  omega
/-- '[]byte(s)' of a text of n bytes: a new row. -/
theorem conv_str (w : World) (l : List UInt8) : ∃ c w', (convert 9 27 (.string ⟨l.toArray⟩)).run Tryd.prog w = .ok (.slice (some ⟨w.heap.size, 0, none⟩) l.length c) w' ∧ l.length ≤ c ∧ w'.rangeAt w.heap.size 0 (U8 l) ∧ w'.there w.heap.size 0 l.length ∧ Below w.heap.size w w' ∧ w.heap.size + 1 ≤ w'.heap.size := by
  have h := run_bytes_of_string (P := Tryd.prog) w 9 27 5 ⟨l.toArray⟩ Tryd.underlying9 Tryd.underlying27 Tryd.underlying5
  have hsz : (⟨l.toArray⟩ : ByteArray).size = l.length := by show l.toArray.size = _; exact List.size_toArray
  generalize hc : grownCap w (⟨l.toArray⟩ : ByteArray).size 0 5 = c at h
  rw [hsz] at h hc
  have hge : l.length ≤ c := by rw [← hc]; exact grownCap_ge ..
  have hrow : ∀ j, j < l.length → (bytesRow ⟨l.toArray⟩ c)[j]? = (U8 l)[j]? := fun j hj => by
    rw [bytesRow_at _ _ j (by simpa using hj), U8_get, List.getElem?_eq_getElem hj]
    simp
  have hbz : l.length ≤ (bytesRow ⟨l.toArray⟩ c).size := by unfold bytesRow; simp
  have hcell : ∀ j, (w.drew.alloc (.cells (bytesRow ⟨l.toArray⟩ c) 5 ((bytesRow ⟨l.toArray⟩ c).size, (bytesRow ⟨l.toArray⟩ c).size + 1))).cell? ⟨w.heap.size, j, none⟩ = (bytesRow ⟨l.toArray⟩ c)[j]? := fun j => cell_of_row _ _ _ _ _ _ (heap_alloc_new w.drew _)
  refine ⟨c, _, h, hge, fun j v hj => ?_, fun j hj => ?_, (Below.refl _ w).drew.alloc (Nat.le_refl _) _, ?_⟩
  · have hlt := (List.getElem?_eq_some_iff.1 hj).1
    rw [U8_length] at hlt
    rw [Nat.zero_add, hcell, hrow j hlt]; exact hj
  · rw [Nat.zero_add, hcell, hrow j hj]
    obtain ⟨u, hu⟩ := byte_get (l := l) (k := j) hj
    refine ⟨by rw [U8_get, hu]; rfl, ?_⟩
    unfold World.frozen?
    rw [show (w.drew.alloc _).heap[w.heap.size]? = _ from heap_alloc_new w.drew _]
    simp
    omega
  · show _ ≤ (w.heap.push _).size
    rw [Array.size_push]; exact Nat.le_refl _
/-- Digits of which some are made great letters. -/
def Great (h l : List UInt8) : Prop := l.length = h.length ∧ ∀ j : Nat, ∀ u v, h[j]? = some u → l[j]? = some v → v = u ∨ 97 ≤ u.toNat ∧ v = u - 32
theorem great_dig : ∀ n : Nat, n < 16 → 97 ≤ (hexd n).toNat → dig? (hexd n - 32).toNat = some n := by decide +kernel
theorem great_back {d l : List UInt8} (hd : d.length = 32) (hg : Great (hexOf d) l) : parseOf l = (d, 0) := by
  have hl : l.length = 64 := by rw [hg.1, hexOf_length, hd]
  refine parseOf_nibs hl hd fun j x hx => ?_
  have hj := (List.getElem?_eq_some_iff.1 hx).1
  obtain ⟨e1, e2⟩ := hexOf_get d j x hx
  obtain ⟨u, hu⟩ := byte_get (l := l) (k := 2 * j) (by omega)
  obtain ⟨v, hv⟩ := byte_get (l := l) (k := 2 * j + 1) (by omega)
  have hx256 := x.toNat_lt
  refine ⟨u, v, hu, hv, ?_, ?_⟩
  · rcases hg.2 _ _ _ e1 hu with rfl | ⟨h97, rfl⟩
    · exact dig_hexd _ (by omega)
    · exact great_dig _ (by omega) h97
  · rcases hg.2 _ _ _ e2 hv with rfl | ⟨h97, rfl⟩
    · exact dig_hexd _ (by omega)
    · exact great_dig _ (by omega) h97
theorem great_set {h l : List UInt8} (hg : Great h l) {k : Nat} {u v : UInt8} (hu : h[k]? = some u) (_hv : l[k]? = some v) (h97 : 97 ≤ u.toNat) : Great h (l.set k (u - 32)) := by
  refine ⟨by simpa using hg.1, fun j a b ha hb => ?_⟩
  rw [List.getElem?_set] at hb
  split at hb
  · rename_i e
    subst e
    split at hb
    · obtain rfl := Option.some.inj hb
      obtain rfl := Option.some.inj (hu.symm.trans ha)
      exact .inr ⟨h97, rfl⟩
    · cases hb
  · exact hg.2 j a b ha hb
theorem wpList_load_wanted {P : Program} {ops : Array Oper} {rest : List Oper} {o : Oper} {a : Act} {w : World} {Q : Exit → Act → World → Prop} (hw : Region.wanted o (yielded ops a.tmps) = true) (ty : TypeId) (x : Operand) (ho : o.op = .load ty x)
    (b off : Nat) (hx : a.eval x = .pointer (some ⟨b, off, none⟩)) (cs : List Value) (d : TypeDesc) (hc : w.rangeAt b off cs) (hu : P.underlying ty = some d) (hd : d.isRow = true) (hi : (P.info? ty).map (·.size) = some cs.length)
    (h : wpList P ops Q rest (a.put o.dst (.agg cs.toArray)) w) : wpList P ops Q (o :: rest) a w :=
  wpList_step fun K hK => by
    rw [if_pos hw]
    exact wp_load_mid ty x ho b off hx cs d hc hu hd hi (hK _ _ h)
set_option maxRecDepth 100000 in
set_option maxHeartbeats 2000000 in
theorem back_law (d : List UInt8) (g : Int) (w : World) (hd : d.length = 32) (hK : Ks w) :
    Calls Tryd.prog 5 #[.agg (U8 d).toArray, .int .u64 g] w fun e w' => e = .returned (.bool true) ∧ Below w.heap.size w w' := by
  have hw1 := hK.1
  have hdz := size_U8 hd
  go_enter Tryd.func5, Tryd.ntmps5
  go_wp2_with fail
  refine calls_at_world (F := fun W => Ks W ∧ W.rangeAt w.heap.size 0 (U8 d) ∧ Below w.heap.size w W ∧ w.heap.size + 1 ≤ W.heap.size) ⟨hK.below (alloc_below w _) hw1, fun j v hj => by rw [Nat.zero_add, cell_of_row _ _ _ _ _ _ (heap_alloc_new w _), ← Array.getElem?_toList]; exact hj, alloc_below w _, by rw [alloc_size]; exact Nat.le_refl _⟩ fun U ⟨KU, RU, BU, sU⟩ => ?_
  generalize hG : w.heap.size = G at *
  refine (alive_any U KU).mono ?_
  rintro e u1 ⟨rfl, hb⟩
  have K1 := KU.below hb (by omega)
  have R1 := range_below RU hb (by omega)
  have B1 := BU.trans (hb.mono (by omega))
  have s1 := hb.size
  clear KU RU BU hb
  go_wp2_with (refine wpList_load_mid rfl 25 (.tmp 2) rfl G 0 rfl (U8 d) _ R1 Tryd.underlying25 rfl (by rw [size25, U8_length, hd]) ?_)
  refine (hex_any u1 d hd).mono ?_
  rintro e u2 ⟨rfl, hb⟩
  have K2 := K1.below hb (by omega)
  have R2 := range_below R1 hb (by omega)
  have B2 := B1.trans (hb.mono (by omega))
  have s2 := hb.size
  clear K1 R1 B1 hb
  obtain ⟨h, hh⟩ : ∃ h, hexOf d = h := ⟨_, rfl⟩
  have hh64 : h.length = 64 := by rw [← hh, hexOf_length, hd]
  obtain ⟨cp, u3, hcv, hc3, R3, T3, hb, s3⟩ := conv_str u2 h
  rw [hh64] at hcv hc3 T3
  rw [hh]
  have K3 := K2.below hb (by omega)
  have D3 := range_below R2 hb (by omega)
  have B3 := B2.trans (hb.mono (by omega))
  generalize hH : u2.heap.size = H at *
  clear K2 R2 B2 hb
  go_wp2_with fail
  have hgr : Great h h := ⟨rfl, fun j u v hu hv => .inl (Option.some.inj (hv.symm.trans hu))⟩
  go_loopw [16] (fun i wr => ∃ (k : Nat) (l : List UInt8), k ≤ 64 ∧ i = .int .i64 k ∧ Great h l ∧ (∀ j, k ≤ j → l[j]? = h[j]?) ∧ wr.rangeAt H 0 (U8 l) ∧ wr.there H 0 64 ∧ Ks wr ∧ wr.rangeAt G 0 (U8 d) ∧ Below G w wr ∧ H + 1 ≤ wr.heap.size) (fun i _ => 64 - (intOf i).toNat)
  case atStart => exact ⟨0, h, by omega, rfl, hgr, fun _ _ => rfl, R3, T3, K3, D3, B3, s3⟩
  case round =>
    clear R3 T3 K3 D3 B3 hgr hcv
    obtain ⟨k, l, hk, rfl, hgr, heq, Rr, Tr, Kr, Dr, Br, sr⟩ := hrel
    have hl64 : l.length = 64 := by rw [hgr.1, hh64]
    by_cases hlt : k < 64
    · obtain ⟨u, hu⟩ := byte_get (l := l) (k := k) (by omega)
      have hu' : h[k]? = some u := (heq k (Nat.le_refl _)).symm.trans hu
      have hck : wr.cell? ⟨H, k, none⟩ = some (.int .u8 (u.toNat : Int)) := by
        have := Rr k (.int .u8 (u.toNat : Int)) (by rw [U8_get, hu]; rfl)
        rwa [Nat.zero_add] at this
      have hfr : wr.frozen? ⟨H, k, none⟩ = false := by
        have := (Tr k hlt).2
        rwa [Nat.zero_add] at this
      have i1 : (k : Int) < 64 := by omega
      have ha := and63 (k : Int)
      have hm : (k : Int) % 64 = (k : Int) := by omega
      have hk0 : (0 : Int) ≤ (k : Int) := by omega
      go_wp2
      all_goals refine ⟨?_, by simp [intOf]; omega⟩
      · rename_i h97 _
        have h97' : 97 ≤ u.toNat := by omega
        have hv : ((u.toNat : Int) - 32) % 256 = ((u - 32).toNat : Int) := by
          have := u.toNat_lt
          rw [UInt8.toNat_sub_of_le _ _ (by rw [UInt8.le_iff_toNat_le]; exact Nat.le_trans (by decide) h97')]
          show _ = ((u.toNat - 32 : Nat) : Int)
          omega
        rw [hv]
        have hst := range_set Rr (by rw [U8_length, hl64]; exact Tr) k (by rw [U8_length, hl64]; exact hlt) (.int .u8 ((u - 32).toNat : Int))
        rw [Nat.zero_add, ← U8_set] at hst
        have hts := World.there_setCells Tr H k [.int .u8 ((u - 32).toNat : Int)]
        refine ⟨k + 1, l.set k (u - 32), by omega, by go_num, great_set hgr hu' hu h97', fun j hj => ?_, hst, hts, Kr.setCell (by omega) _, ((Only.refl (G + 1) H wr).setCell k _).range Dr (by omega) (by omega), Br.setCell (by show G ≤ H; omega) _, by simpa [World.setCell] using sr⟩
        rw [List.getElem?_set_ne (by omega)]
        exact heq j (by omega)
      · exact ⟨k + 1, l, by omega, by go_num, hgr, fun j hj => heq j (by omega), Rr, Tr, Kr, Dr, Br, sr⟩
      · exact ⟨k + 1, l, by omega, by go_num, hgr, fun j hj => heq j (by omega), Rr, Tr, Kr, Dr, Br, sr⟩
    · obtain rfl : k = 64 := by omega
      have hbs : Bs wr wr.heap.size (some ⟨H, 0, none⟩) 64 l := ⟨hl64, fun _ => ⟨H, 0, rfl, by omega, fun j u hu => by
        have := Rr j (.int .u8 (u.toNat : Int)) (by rw [U8_get, hu]; rfl)
        exact this⟩⟩
      have hstr := run_string_bs (P := Tryd.prog) hbs 27 9 5 cp Tryd.underlying27 Tryd.underlying5 Tryd.underlying9
      go_wp2_with fail
      refine (parse_any wr _).mono ?_
      rw [show ((⟨l.toArray⟩ : ByteArray).data.toList) = l from rfl, great_back hd (hh ▸ hgr)]
      rintro e u4 ⟨rfl, hb⟩
      have D4 := range_below Dr hb (by omega)
      have B4 := Br.trans (hb.mono (by omega))
      have s4 := hb.size
      clear hb Rr Tr Kr Dr Br hbs hstr
      have hi : (Tryd.prog.info? 25).map (·.size) = some (U8 d).length := by rw [size25, U8_length, hd]
      have hq := fun w : World => run_eq32 w d d hd hd
      have hg := guard32
      have h := fun z hz => arr_new u4 z d hz hd
      go_wp2_with (first
        | refine wpList_store_mid rfl 25 (.tmp 7) (.tmp 43) rfl u4.heap.size 0 (U8 d).toArray rfl rfl (by rw [hdz]; exact there_new u4 _ 25 rfl) (by rw [size25, hdz]) (all_oneCell_toArray (U8_one _)) ?_
        | refine wpList_load_wanted rfl 25 (.tmp 7) rfl u4.heap.size 0 rfl (U8 d) _ (h _ (by rfl)).1 Tryd.underlying25 rfl hi ?_
        | refine wpList_load_wanted rfl 25 (.tmp 2) rfl G 0 rfl (U8 d) _ (range_below D4 (h _ (by rfl)).2.1 (by omega)) Tryd.underlying25 rfl hi ?_)
      go_ret
      exact ⟨rfl, hG ▸ B4.trans ((h _ (by rfl)).2.1.mono (by omega))⟩
end Go.Proofs.YthdnlcllcdcjhaaDoor
