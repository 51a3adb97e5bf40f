/-
  Bytes that are the same; what the flash keeps of what was programmed.
-/
import Derived.StillTailTactics
import Derived.Deep.QuietTactic
import Derived.Test.YtpdlipkmojhnnaaFlashAlive
namespace Go.Proofs.Ytpdlipkmojhnnaa
open Go.RowKit
set_option maxRecDepth 100000
set_option maxHeartbeats 400000 in
theorem same_yes (w : World) (A1 A2 : Option Addr) (n c1 c2 : Nat) (l : List UInt8) (h1 : Bs w w.heap.size A1 n l) (h2 : Bs w w.heap.size A2 n l) (hs : (n : Int) ≤ 262144) :
    Calls Try.prog 32 #[.slice A1 n c1, .slice A2 n c2] w fun e w' => e = .returned (.bool true) ∧ Below w.heap.size w w' := by
  have hl := Lib.hid h1.len
  go_enter Try.func32, Try.ntmps32
  go_wp2
  go_loopw [5] (fun i wr => ∃ k : Nat, (k : Int) ≤ (n : Int) ∧ i = .int .i64 k ∧ Below w.heap.size w wr) (fun i _ => n - (intOf i).toNat)
  case atStart => exact ⟨0, by omega, rfl, Below.refl _ _⟩
  case round =>
    obtain ⟨k, hk, rfl, hbel⟩ := hrel
    by_cases hlt : (k : Int) < (n : Int)
    · have r1 := h1.below hbel
      have r2 := h2.below hbel
      obtain ⟨b1, o1, rfl, _, hp1⟩ := r1.place (by omega)
      obtain ⟨b2, o2, rfl, _, hp2⟩ := r2.place (by omega)
      obtain ⟨u, hu⟩ := byte_get (l := l) (k := k) (by rw [hl.out]; omega)
      have x1 := hp1 k u hu
      have x2 := hp2 k u hu
      clear hp1 hp2 hu r1 r2
      have hk0 : (0 : Int) ≤ (k : Int) := by omega
      go_wp2
      go_quiet (fail)
      go_wp2
      go_roundw
      case rel => exact ⟨k + 1, by omega, by go_num, hbel.trans (drewN_below _ _ _)⟩
      case measure => simp [intOf]; omega
    · go_wp2
      go_ret
      exact ⟨rfl, hbel⟩
theorem Bs.offs {w : World} {B n g : Nat} {A : Option Addr} {l : List UInt8} (h : Bs w B A n l) (hn : 0 < n) (hg : B ≤ g) : Off g A := fun a ha => by
  obtain ⟨b, o, e, hb, _⟩ := h.place hn
  rw [ha] at e
  injection e with e
  subst e
  show b ≠ g
  omega
theorem lasts_nocut {F : Fl} (h : F.cut = false) (n : Nat) : lasts F n = n := by unfold lasts; rw [if_neg (fun e => by rw [h] at e; cases e.1)]
theorem gone_nocut {F : Fl} (h : F.cut = false) (n : Nat) : gone F n = false := decide_eq_false (fun e => by rw [h] at e; cases e.1)
theorem progBy_dat {F : Fl} (h : F.cut = false) (p : Nat) (l : List UInt8) : (progBy F p l).dat = patch F.dat p l := by
  show patch F.dat p (l.take (lasts F l.length)) = _
  rw [lasts_nocut h, List.take_of_length_le (Nat.le_refl _)]
theorem piece_patch (d l : List UInt8) (p : Nat) (h : p + l.length ≤ d.length) : ((patch d p l).drop p).take l.length = l := by
  refine List.ext_getElem? fun i => ?_
  rw [List.getElem?_take]
  by_cases hi : i < l.length
  · rw [if_pos hi, List.getElem?_drop, patch_get d p l h, if_pos (by omega)]
    congr 1; omega
  · rw [if_neg hi, List.getElem?_eq_none (by omega)]
theorem patch_twice (d l : List UInt8) (p : Nat) (h : p + l.length ≤ d.length) : patch (patch d p l) p l = patch d p l := by
  refine List.ext_getElem? fun i => ?_
  rw [patch_get _ _ _ (by rw [patch_length _ _ _ h]; exact h), patch_get d p l h]
  split <;> rfl
theorem okBits_same (l : List UInt8) : okBits l l = true := List.all_eq_true.2 fun _ _ => clr_same _
theorem okBits_255 (n : Nat) (l : List UInt8) (h : l.length ≤ n) : okBits (List.replicate n 255) l = true := List.all_eq_true.2 fun j hj => by
  have := List.mem_range.1 hj
  have e : (List.replicate n (255 : UInt8)).getD j 0 = 255 := by rw [List.getD_eq_getElem?_getD, List.getElem?_replicate, if_pos (by omega)]; rfl
  rw [e]; exact clr_255 _
theorem piece_fresh (n m p k : Nat) (h : p + k ≤ n * m) : piece (fresh n m) p k = List.replicate k 255 := by
  unfold piece fresh
  simp only [List.drop_replicate, List.take_replicate]
  rw [show min k (n * m - p) = k by omega]
end Go.Proofs.Ytpdlipkmojhnnaa
