/-
  Bytes in parts, joined.
-/
import Derived.Test.YtdgihhepmmkkpaaCrcWalks
namespace Go.Proofs.Ytdgihhepmmkkpaa
open Go.RowKit
set_option maxRecDepth 100000
/-- A slice of slices of bytes, all of it below block B. -/
structure Ps (w : World) (B : Nat) (A : Option Addr) (n : Nat) (ls : List (List UInt8)) : Prop where
  len : ls.length = n
  place : 0 < n → ∃ b off, A = some ⟨b, off, none⟩ ∧ b < B ∧ ∀ k l, ls[k]? = some l → ∃ A' n' c', w.cell? ⟨b, off + k, none⟩ = some (.slice A' n' c') ∧ Bs w B A' n' l
theorem Ps.keep {w w' : World} {B n : Nat} {A : Option Addr} {ls : List (List UInt8)} (h : Ps w B A n ls) (hk : ∀ p : Addr, p.block < B → w'.cell? p = w.cell? p) : Ps w' B A n ls :=
  ⟨h.len, fun hn => by
    obtain ⟨b, off, e, hb, hc⟩ := h.place hn
    refine ⟨b, off, e, hb, fun k l hl => ?_⟩
    obtain ⟨A', n', c', h1, h2⟩ := hc k l hl
    exact ⟨A', n', c', (hk _ hb).trans h1, h2.keep hk⟩⟩
theorem Ps.below' {w w' : World} {B B' n : Nat} {A : Option Addr} {ls : List (List UInt8)} (h : Ps w B A n ls) (hb : Below B' w w') (hB : B ≤ B') : Ps w' B A n ls := h.keep fun _ hp => hb.cell (by omega)
theorem part_get {ls : List (List UInt8)} {k : Nat} (h : k < ls.length) : ∃ l, ls[k]? = some l := ⟨_, List.getElem?_eq_getElem h⟩
theorem take_flat {ls : List (List UInt8)} {k : Nat} {l : List UInt8} (h : ls[k]? = some l) : (ls.take (k + 1)).flatten = (ls.take k).flatten ++ l := by
  rw [List.take_add_one, h]; simp
theorem flat_le {ls : List (List UInt8)} {k : Nat} {l : List UInt8} (h : ls[k]? = some l) : (ls.take k).flatten.length + l.length ≤ ls.flatten.length := by
  have h1 := take_flat h
  have h2 : ls.flatten = (ls.take (k + 1)).flatten ++ (ls.drop (k + 1)).flatten := by rw [← List.flatten_append, List.take_append_drop]
  rw [h2, h1]; simp
set_option maxHeartbeats 800000 in
theorem join_any (A : Option Addr) (n c : Nat) (ls : List (List UInt8)) (w : World) (B : Nat) (hps : Ps w B A n ls) (hB : B ≤ w.heap.size) (hn : (n : Int) ≤ 65536) (htot : ls.flatten.length ≤ 65536) :
    Calls Try.prog 54 #[.slice A n c] w (RetOwn 5 ls.flatten w) := by
  obtain ⟨i0, hi0, hz0, hz1, hz2⟩ := info_parts info_u8
  have hlen := Lib.hid hps.len
  go_enter Try.func54, Try.ntmps54
  go_wp2
  go_loopw [3, 4] (fun v i wr => ∃ k : Nat, k ≤ n ∧ i = .int .i64 k ∧ (∃ m, Hid (m = (ls.take k).flatten.length) ∧ wr.ownsRow w.heap.size 5 1 v m (U8 (ls.take k).flatten)) ∧ Below w.heap.size w wr) (fun _ i _ => n - (intOf i).toNat)
  case atStart => exact ⟨0, by omega, rfl, ⟨0, rfl, World.ownsRow_lit w #[] 0 (Nat.le_refl _) (by simp [maxLen]) rfl⟩, (Below.refl _ _).alloc (Nat.le_refl _) _⟩
  case round =>
    obtain ⟨k, hk, rfl, ⟨m, hm, hown⟩, hbel⟩ := hrel
    have hsz := hbel.size
    by_cases hlt : k < n
    · obtain ⟨b, off, rfl, hb, hc⟩ := hps.place (by omega)
      obtain ⟨l, hl⟩ := part_get (ls := ls) (k := k) (by rw [hlen.out]; omega)
      obtain ⟨A', n', c', hck, hbs⟩ := hc k l hl
      clear hc
      have hcw := (hbel.cell (p := ⟨b, off + k, none⟩) (Nat.lt_of_lt_of_le hb hB)).trans hck
      have Htf := Lib.hid (take_flat hl)
      have hlen' := Lib.hid hbs.len
      have hfl : m + n' ≤ 65536 := by have := flat_le hl; rw [← hm.out, hlen'.out] at this; omega
      clear hl
      obtain ⟨wo, rfl⟩ : ∃ wo : World, wo = wr := ⟨_, rfl⟩
      go_wp2
      go_loopw [3, 5] (fun v j wr => ∃ t : Nat, t ≤ n' ∧ j = .int .i64 t ∧ wr.ownsRow w.heap.size 5 1 v (m + t) (U8 ((ls.take k).flatten ++ l.take t)) ∧ Below w.heap.size w wr) (fun _ j _ => n' - (intOf j).toNat)
      case atStart => exact ⟨0, by omega, rfl, by simpa using hown, hbel⟩
      case round =>
        obtain ⟨t, ht, rfl, hown2, hbel2⟩ := hrel
        have hsz2 := hbel2.size
        have hcw2 := (hbel2.cell (p := ⟨b, off + k, none⟩) (Nat.lt_of_lt_of_le hb hB)).trans hck
        by_cases hlt2 : t < n'
        · have hbs2 := hbs.below' hbel2 hB
          obtain ⟨b', off', rfl, hb', hc'⟩ := hbs2.place (by omega)
          obtain ⟨u, hu⟩ := byte_get (l := l) (k := t) (by rw [hlen'.out]; omega)
          have hcu := hc' t u hu
          clear hc'
          have Hu := Lib.hid hu; clear hu
          clear hck hcw
          go_wp2_with (at_builtin; refine wpList_append_bs _ rfl (.tmp 22) (.tmp 30) 22 rfl w.heap.size 5 i0 Try.underlying22 hi0 hz0 hz1 hz2 _ (m + t) _ rfl (hown2.alloc _) (wr.heap.size + 1) (some ⟨wr.heap.size, 0, none⟩) 1 _ [u] rfl (Bs.new_ wr 5 [u] (0, 0)) (by omega) (by simp; omega) ?_; intro v' w1 hown3 hgrow)
          go_roundw
          case rel => exact ⟨t + 1, by omega, by go_num, by rw [U8_append, List.append_assoc, take_snoc_U8 Hu.out, ← U8_append] at hown3; exact hown3, (hbel2.alloc hsz2 _).grown hgrow (by simp; omega) (own_ge hown2)⟩
          case measure => simp [intOf]; omega
        · go_wp2
          go_roundw
          case rel => 
            obtain rfl : t = n' := by omega
            rw [show l.take t = l from List.take_of_length_le (Nat.le_of_eq hlen'.out)] at hown2
            refine ⟨k + 1, by omega, by go_num, ⟨m + t, ?_, by rw [Htf.out]; exact hown2⟩, hbel2⟩
            show m + t = _
            rw [Htf.out, List.length_append, ← hm.out, hlen'.out]
          case measure => simp [intOf]; omega
    · go_wp2
      go_ret
      obtain rfl : k = n := by omega
      rw [List.take_of_length_le (by rw [hlen.out]; omega)] at hown hm
      exact ⟨_, rfl, by rw [← hm.out]; exact hown, hbel⟩
end Go.Proofs.Ytdgihhepmmkkpaa
