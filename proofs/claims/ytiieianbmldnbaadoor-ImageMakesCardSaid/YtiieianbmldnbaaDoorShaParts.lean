/-
  The digest of parts, one behind the other.
-/
import Derived.Test.YtiieianbmldnbaaDoorShaSum
namespace Go.Proofs.YtiieianbmldnbaaDoor
open Go.RowKit
set_option maxRecDepth 100000
/-- A slice of slices of bytes, all of it below block B. -/
structure Pc (w : World) (B : Nat) (A : Option Addr) (n : Nat) (ls : List (List UInt8)) : Prop where
  len : ls.length = n
  place : 0 < n → ∃ b off, A = some ⟨b, off, none⟩ ∧ b < B ∧ ∀ k l, ls[k]? = some l → ∃ A' n' c', w.cell? ⟨b, off + k, none⟩ = some (.slice A' n' c') ∧ n' ≤ c' ∧ Bs w B A' n' l
theorem Pc.keep {w w' : World} {B n : Nat} {A : Option Addr} {ls : List (List UInt8)} (h : Pc w B A n ls) (hk : ∀ p : Addr, p.block < B → w'.cell? p = w.cell? p) : Pc w' B A n ls :=
  ⟨h.len, fun hn => by
    obtain ⟨b, off, e, hb, hc⟩ := h.place hn
    refine ⟨b, off, e, hb, fun k l hl => ?_⟩
    obtain ⟨A', n', c', h1, hcap, h2⟩ := hc k l hl
    exact ⟨A', n', c', (hk _ hb).trans h1, hcap, h2.keep hk⟩⟩
theorem Pc.below' {w w' : World} {B B' n : Nat} {A : Option Addr} {ls : List (List UInt8)} (h : Pc w B A n ls) (hb : Below B' w w') (hB : B ≤ B') : Pc w' B A n ls := h.keep fun _ hp => hb.cell (by omega)
theorem Pc.none (w : World) (B : Nat) (A : Option Addr) : Pc w B A 0 [] := ⟨rfl, fun h => absurd h (by omega)⟩
theorem Bs.off {w : World} {B n g : Nat} {A : Option Addr} {l : List UInt8} (h : Bs w B A n l) (hn : 0 < n) (hg : B ≤ g) : Off g A := fun a ha => by
  obtain ⟨b, o, e, hb, _⟩ := h.place hn
  rw [ha] at e
  injection e with e
  subst e
  show b ≠ g
  omega
theorem partc_get {ls : List (List UInt8)} {k : Nat} (h : k < ls.length) : ∃ l, ls[k]? = some l := ⟨_, List.getElem?_eq_getElem h⟩
theorem takec_flat {ls : List (List UInt8)} {k : Nat} {l : List UInt8} (h : ls[k]? = some l) : (ls.take (k + 1)).flatten = (ls.take k).flatten ++ l := by
  rw [List.take_add_one, h]; simp
theorem flatc_le {ls : List (List UInt8)} {k : Nat} {l : List UInt8} (h : ls[k]? = some l) : (ls.take k).flatten.length + l.length ≤ ls.flatten.length := by
  have h1 := takec_flat h
  have h2 : ls.flatten = (ls.take (k + 1)).flatten ++ (ls.drop (k + 1)).flatten := by rw [← List.flatten_append, List.take_append_drop]
  rw [h2, h1]; simp
set_option maxRecDepth 100000 in
set_option maxHeartbeats 1600000 in
theorem shasum_any (A : Option Addr) (n c : Nat) (ls : List (List UInt8)) (w : World) (B : Nat) (hps : Pc w B A n ls) (hB : B ≤ w.heap.size) (h1 : 1 < w.heap.size) (hK : w.rangeAt 1 0 (W32 KS)) (hn : (n : Int) ≤ 65536) (htot : ls.flatten.length ≤ 900000) :
    Calls Tryd.prog 36 #[.slice A n c] w fun e w' => e = .returned (.agg (U8 (shaOf ls.flatten)).toArray) ∧ Below w.heap.size w w' := by
  have hlen := Lib.hid hps.len
  go_enter Tryd.func36, Tryd.ntmps36
  go_wp2_with (go_at_call 49; refine (new_any _).mono ?_; rw [show ∀ o, (w.alloc o).heap.size = w.heap.size + 1 from fun _ => Array.size_push ..]; rintro e wA ⟨rfl, hhA, hbA, hsA⟩; have htA : wA.there w.heap.size 0 32 := there_below (there_new _ _ _ rfl) hbA (by omega); have hbB : Below w.heap.size w wA := ((Below.refl _ w).alloc (Nat.le_refl _) _).trans (hbA.mono (by omega)); clear hbA)
  go_loopw [9] (fun i wr => ∃ k : Nat, k ≤ n ∧ i = .int .i64 k ∧ HashAt wr (w.heap.size + 1) (ls.take k).flatten ∧ wr.there w.heap.size 0 32 ∧ Below w.heap.size w wr ∧ w.heap.size + 2 ≤ wr.heap.size) (fun i _ => n - (intOf i).toNat)
  case atStart => exact ⟨0, by omega, rfl, by simpa using hhA, htA, hbB, by omega⟩
  case round =>
    clear hhA htA hbB hsA
    obtain ⟨k, hk, rfl, hh, ht, hbel, hsz⟩ := hrel
    by_cases hlt : k < n
    · obtain ⟨b, off, rfl, hb, hc⟩ := hps.place (by omega)
      obtain ⟨l, hl⟩ := partc_get (ls := ls) (k := k) (by rw [hlen.out]; omega)
      obtain ⟨A', n', c', hck, hcap, hbs⟩ := hc k l hl
      clear hc
      have hcw := (hbel.cell (p := ⟨b, off + k, none⟩) (Nat.lt_of_lt_of_le hb hB)).trans hck
      have Htf := Lib.hid (takec_flat hl)
      have Hfl := Lib.hid (flatc_le hl)
      have hn' : n' ≤ 900000 := by have := Hfl.out; have := hbs.len; omega
      clear hl
      go_wp2_with (go_at_call 50; refine (write_any (w.heap.size + 1) _ l A' n' c' wr B hh (hbs.below' hbel hB) (fun h => hbs.off h (by omega)) (by omega) hcap (by omega) (by omega) (by omega) (range_below hK hbel h1) (by omega) (by have := Hfl.out; omega)).mono ?_; rintro e w2 ⟨rfl, hh2, ho2⟩)
      go_roundw
      case rel =>
        refine ⟨k + 1, by omega, by go_num, by rw [Htf.out]; exact hh2, ho2.there ht (by omega) (by omega), hbel.trans (ho2.toBelow (by omega) (by omega)), Nat.le_trans hsz ho2.size⟩
      case measure => simp [intOf]; omega
    · obtain rfl : k = n := by omega
      rw [List.take_of_length_le (by rw [hlen.out]; omega)] at hh
      go_wp2_with (first
        | (go_at_call 51; refine (hsum_any wr (w.heap.size + 1) _ hh (by omega) (by omega) (range_below hK hbel h1) (by omega)).mono ?_; rintro e w2 ⟨rfl, hb2⟩; have ht2 := there_below ht hb2 (by omega))
        | (refine wpList_store_mid rfl 23 (.tmp 2) (.tmp 18) rfl w.heap.size 0 (U8 (shaOf ls.flatten)).toArray rfl rfl (by simpa [U8_length, shaOf_length] using ht2) (by rw [size25]; simp [U8_length, shaOf_length]) (all_oneCell_toArray (U8_one _)) ?_))
      refine bodyPost_ret (results_cell_mid Tryd.results36 _ _ w.heap.size 0 (U8 (shaOf ls.flatten)) _ rfl ?_ Tryd.underlying23 rfl (by rw [size25, U8_length, shaOf_length])) rfl ?_
      · exact World.rangeAt_setCells_same _ _ _ _ (by simpa [U8_length, shaOf_length] using ht2)
      · exact ⟨rfl, below_setCells (hbel.trans (hb2.mono (by omega))) (by omega) _ 0⟩
end Go.Proofs.YtiieianbmldnbaaDoor
