/-
  A flash: bytes erased, held against others, read, laid in.
-/
import Derived.Test.YtpdlipkmojhnnaaFlashCount
namespace Go.Proofs.Ytpdlipkmojhnnaa
open Go.RowKit
set_option maxRecDepth 100000
/-- n bytes from off on are 255. -/
def setAll (dat : List UInt8) (off : Nat) : Nat → List UInt8
  | 0 => dat
  | k + 1 => (setAll dat off k).set (off + k) 255
theorem setAll_length (dat : List UInt8) (off n : Nat) : (setAll dat off n).length = dat.length := by
  induction n with
  | zero => rfl
  | succ n ih => rw [setAll, List.length_set, ih]
theorem setAll_get (dat : List UInt8) (off n i : Nat) (h : off + n ≤ dat.length) : (setAll dat off n)[i]? = if off ≤ i ∧ i < off + n then some 255 else dat[i]? := by
  induction n with
  | zero => rw [setAll, if_neg (by omega)]
  | succ n ih =>
    rw [setAll, List.getElem?_set, setAll_length, ih (by omega)]
    by_cases e : off + n = i
    · rw [if_pos e, if_pos (by omega), if_pos (by omega)]
    · rw [if_neg e]
      by_cases h1 : off ≤ i ∧ i < off + n
      · rw [if_pos h1, if_pos (by omega)]
      · rw [if_neg h1, if_neg (by omega)]
set_option maxHeartbeats 400000 in
theorem erase_f (w : World) (bb off n c : Nat) (dat : List UInt8) (hr : w.rangeAt bb 0 (U8 dat)) (ht : w.there bb 0 dat.length) (hn : off + n ≤ dat.length) (hs : (n : Int) ≤ 262144) :
    Calls Try.prog 35 #[.slice (some ⟨bb, off, none⟩) n c] w fun e w' => e = .returned (.tuple #[]) ∧ w'.rangeAt bb 0 (U8 (setAll dat off n)) ∧ w'.there bb 0 dat.length ∧ Only w.heap.size bb w w' := by
  go_enter Try.func35, Try.ntmps35
  go_wp2
  go_loopw [5] (fun i wr => ∃ k : Nat, (k : Int) ≤ (n : Int) ∧ i = .int .i64 k ∧ wr.rangeAt bb 0 (U8 (setAll dat off k)) ∧ wr.there bb 0 dat.length ∧ Only w.heap.size bb w wr) (fun i _ => n - (intOf i).toNat)
  case atStart => exact ⟨0, by omega, rfl, hr, ht, Only.refl _ _ _⟩
  case round =>
    clear hr ht
    obtain ⟨k, hk, rfl, hr, ht, hO⟩ := hrel
    by_cases hlt : (k : Int) < (n : Int)
    · have hcell := (ht (off + k) (by omega)).1
      have hfr := (ht (off + k) (by omega)).2
      rw [Nat.zero_add] at hcell hfr
      obtain ⟨u, hu⟩ := Option.isSome_iff_exists.1 hcell
      have hst := range_set hr (by rw [U8_length, setAll_length]; exact ht) (off + k) (by rw [U8_length, setAll_length]; omega) (.int .u8 ((255 : UInt8).toNat : Int))
      rw [Nat.zero_add, ← U8_set] at hst
      have Hst := Lib.hid hst
      clear hst hr hcell
      go_wp2
      go_roundw
      case rel => exact ⟨k + 1, by omega, by go_num, Hst.out, there_set ht _ _, hO.setCell _ _⟩
      case measure => simp [intOf]; omega
    · obtain rfl : k = n := by omega
      go_wp2
      go_end0
      exact ⟨rfl, hr, ht, hO⟩
/-- May the bits of v be cleared in u? -/
def clr (v u : UInt8) : Bool := bits .andNot .u8 (v.toNat : Int) (u.toNat : Int) == 0
def okBits (p b : List UInt8) : Bool := (List.range b.length).all fun j => clr (b.getD j 0) (p.getD j 0)
theorem clr_same (v : UInt8) : clr v v = true := by
  have : ∀ n : Nat, n < 256 → (bits .andNot .u8 (n : Int) (n : Int) == 0) = true := by decide +kernel
  exact this v.toNat v.toNat_lt
theorem clr_255 (v : UInt8) : clr v 255 = true := by
  have : ∀ n : Nat, n < 256 → (bits .andNot .u8 (n : Int) 255 == 0) = true := by decide +kernel
  exact this v.toNat v.toNat_lt
set_option maxHeartbeats 400000 in
theorem only_f (w : World) (Ap Ab : Option Addr) (np nb cp cb : Nat) (p b : List UInt8) (hp : Bs w w.heap.size Ap np p) (hb : Bs w w.heap.size Ab nb b) (hle : nb ≤ np) (hs : (nb : Int) ≤ 262144) :
    Calls Try.prog 75 #[.slice Ap np cp, .slice Ab nb cb] w fun e w' => e = .returned (.bool (okBits p b)) ∧ w' = w := by
  have hlp := Lib.hid hp.len
  have hlb := Lib.hid hb.len
  go_enter Try.func75, Try.ntmps75
  go_wp2
  go_loopw [9] (fun i wr => ∃ k : Nat, (k : Int) ≤ (nb : Int) ∧ i = .int .i64 k ∧ wr = w ∧ Hid (∀ j, j < k → clr (b.getD j 0) (p.getD j 0) = true)) (fun i _ => nb - (intOf i).toNat)
  case atStart => exact ⟨0, by omega, rfl, rfl, Lib.hid fun j hj => absurd hj (by omega)⟩
  case round =>
    obtain ⟨k, hk, rfl, rfl, hall⟩ := hrel
    by_cases hlt : (k : Int) < (nb : Int)
    · obtain ⟨bk, ok, rfl, _, hcb⟩ := hb.place (by omega)
      obtain ⟨pk, pok, rfl, _, hcp⟩ := hp.place (by omega)
      obtain ⟨u, hu⟩ := byte_get (l := b) (k := k) (by rw [hlb.out]; omega)
      obtain ⟨v, hv⟩ := byte_get (l := p) (k := k) (by rw [hlp.out]; omega)
      have h1 := hcb k u hu
      have h2 := hcp k v hv
      have i2 : (k : Int) < (np : Int) := by omega
      have hgu : b.getD k 0 = u := by rw [List.getD_eq_getElem?_getD, hu]; rfl
      have hgv : p.getD k 0 = v := by rw [List.getD_eq_getElem?_getD, hv]; rfl
      have Hc : Hid (clr (b.getD k 0) (p.getD k 0) = (bits .andNot .u8 (u.toNat : Int) (v.toNat : Int) == 0)) := by
        show _ = _
        rw [hgu, hgv]; rfl
      clear hcb hcp hu hv hgu hgv
      by_cases hz : bits .andNot .u8 (u.toNat : Int) (v.toNat : Int) = 0
      · go_wp2
        go_roundw
        case rel =>
          refine ⟨k + 1, by omega, by go_num, by first | rfl | trivial, Lib.hid fun j hj => ?_⟩
          by_cases e : j = k
          · subst e; rw [Hc.out, hz]; rfl
          · exact hall.out j (by omega)
        case measure => simp [intOf]; omega
      · have hno : okBits p b = false := by
          rw [Bool.eq_false_iff]
          intro h
          have := List.all_eq_true.1 h k (List.mem_range.2 (by rw [hlb.out]; omega))
          rw [Hc.out] at this
          exact hz (eq_of_beq this)
        have HN := Lib.hid hno
        clear hno
        go_wp2
        go_ret
        exact ⟨by rw [HN.out]; rfl, rfl⟩
    · have hyes : okBits p b = true := List.all_eq_true.2 fun j hj => hall.out j (by have := List.mem_range.1 hj; rw [hlb.out] at this; omega)
      have HY := Lib.hid hyes
      clear hyes
      go_wp2
      go_ret
      exact ⟨by rw [HY.out]; rfl, rfl⟩
theorem mi_of_own {w : World} {base g n c : Nat} {l : List UInt8} (h : w.ownsRow base 5 1 (.slice (some ⟨g, 0, none⟩) n c) n (U8 l)) : MI w g n ∧ g < w.heap.size := by
  have hl : l.length = n := by have := h.1; rw [U8_length] at this; omega
  refine ⟨⟨fun j hj => ?_, fun j hj => ?_⟩, ?_⟩
  · rw [Nat.zero_add, h.cellAt j (by omega), h.frozenAt j]
    obtain ⟨u, hu⟩ := byte_get (l := l) (k := j) (by omega)
    rw [U8_get, hu]
    exact ⟨rfl, rfl⟩
  · obtain ⟨u, hu⟩ := byte_get (l := l) (k := j) (by omega)
    exact ⟨u.toNat, by rw [h.cellAt j (by omega), U8_get, hu]; rfl⟩
  · rcases h.2 with ⟨h', _⟩ | ⟨g', cap, cur, h', _, hg, _⟩
    · cases h'
    · simp only [Value.slice.injEq, Option.some.injEq, Addr.mk.injEq, and_true, true_and] at h'
      obtain ⟨rfl, _⟩ := h'
      exact (Array.getElem?_eq_some_iff.1 hg).1
/-- A row of the call's own into which bytes are copied. -/
theorem copied {w w1 : World} {n : Nat} {l : List UInt8} (hown : w1.ownsRow w.heap.size 5 1 (.slice (some ⟨w.heap.size, 0, none⟩) n n) n (U8 (List.replicate n 0))) (hgr : w.grownBy w1 none) (hl : l.length = n) :
    Bs (w1.setCells w.heap.size 0 (U8 l)) (w1.setCells w.heap.size 0 (U8 l)).heap.size (some ⟨w.heap.size, 0, none⟩) n l ∧ Below w.heap.size w (w1.setCells w.heap.size 0 (U8 l)) ∧ w.heap.size + 1 ≤ (w1.setCells w.heap.size 0 (U8 l)).heap.size ∧ MI (w1.setCells w.heap.size 0 (U8 l)) w.heap.size n := by
  obtain ⟨hmi, hlt⟩ := mi_of_own hown
  have hr := World.rangeAt_setCells_same w1 w.heap.size 0 (U8 l) (by rw [U8_length, hl]; exact hmi.1)
  have hsz : (w1.setCells w.heap.size 0 (U8 l)).heap.size = w1.heap.size := size_setCells_ _ _ _ _
  refine ⟨⟨hl, fun _ => ⟨w.heap.size, 0, rfl, by rw [hsz]; exact hlt, fun k u hu => hr k _ (by rw [U8_get, hu]; rfl)⟩⟩, below_setCells ((Below.refl _ w).grown hgr (Nat.le_refl _) (fun _ h => by cases h)) (Nat.le_refl _) _ _, by rw [hsz]; exact hlt, World.there_setCells hmi.1 _ _ _, fun j hj => ?_⟩
  obtain ⟨u, hu⟩ := byte_get (l := l) (k := j) (by omega)
  refine ⟨u.toNat, ?_⟩
  have := hr j (.int .u8 (u.toNat : Int)) (by rw [U8_get, hu]; rfl)
  rwa [Nat.zero_add] at this
theorem FlashAt.bs {w : World} {g bb wb : Nat} {F : Fl} (h : FlashAt w g bb wb F) : Bs w w.heap.size (some ⟨bb, 0, none⟩) F.dat.length F.dat := ⟨rfl, fun _ => ⟨bb, 0, rfl, h.lt.2.1, fun j u hu => h.dat j _ (by rw [U8_get, hu]; rfl)⟩⟩
theorem size5 : (Try.prog.info? 5).map (·.size) = some 1 := by kernel_rfl
set_option maxHeartbeats 400000 in
theorem image_f (w : World) (g bb wb : Nat) (F : Fl) (h : FlashAt w g bb wb F) : Calls Try.prog 17 #[.pointer (some ⟨g, 0, none⟩)] w fun e w' => e = .returned (.slice (some ⟨w.heap.size, 0, none⟩) F.dat.length F.dat.length) ∧ Bs w' w'.heap.size (some ⟨w.heap.size, 0, none⟩) F.dat.length F.dat ∧ Below w.heap.size w w' ∧ w.heap.size + 1 ≤ w'.heap.size ∧ MI w' w.heap.size F.dat.length := by
  obtain ⟨i0, hi0, hz0, hz1, hz2⟩ := info_parts info_u8
  have c0 := h.c0
  have hs := h.ok.small
  have hbs := h.bs
  have hlt := h.lt
  clear h
  obtain ⟨d, hd⟩ : ∃ d, F.dat = d := ⟨_, rfl⟩
  rw [hd] at c0 hs hbs ⊢
  clear hd
  generalize hl : d.length = L at *
  have Hl := Lib.hid hl
  clear hl
  go_enter Try.func17, Try.ntmps17
  go_wp2_with (first
    | (refine wpList_make_part _ rfl _ _ 35 rfl w.heap.size 5 i0 Try.underlying35 hi0 hz0 hz1 hz2 .i64 .i64 _ _ L L rfl rfl rfl rfl (Nat.le_refl _) (by omega) (Nat.le_refl _) ?_; intro w1 hown hgr; have c0' : w1.cell? ⟨g, 0, none⟩ = some (.slice (some ⟨bb, 0, none⟩) L L) := (hgr.cell_far ⟨g, 0, none⟩ hlt.1 (fun e => by cases e)).trans c0; have hcp := copied hown hgr Hl.out; have hth : w1.there w.heap.size 0 (min L L) := by rw [Nat.min_self]; exact (mi_of_own hown).1.1)
    | (refine wpList_copy_bs _ rfl (.tmp 10) (.tmp 14) 35 35 rfl 5 Try.underlying35 size5 w.heap.size 0 L L rfl w.heap.size (some ⟨bb, 0, none⟩) L L d rfl (hbs.grown hgr (Nat.le_refl _) (fun _ h => by cases h)) hth ?_))
  rw [List.take_of_length_le (by rw [Hl.out]; exact Nat.le_refl _)]
  go_ret
  exact ⟨rfl, hcp⟩
/-- Bytes laid over others from an address on. -/
def patch (dat : List UInt8) (p : Nat) (b : List UInt8) : List UInt8 := dat.take p ++ b ++ dat.drop (p + b.length)
theorem patch_length (dat : List UInt8) (p : Nat) (b : List UInt8) (h : p + b.length ≤ dat.length) : (patch dat p b).length = dat.length := by
  unfold patch; simp; omega
theorem patch_get (dat : List UInt8) (p : Nat) (b : List UInt8) (h : p + b.length ≤ dat.length) (i : Nat) : (patch dat p b)[i]? = if p ≤ i ∧ i < p + b.length then b[i - p]? else dat[i]? := by
  unfold patch
  have hp : (dat.take p).length = p := by rw [List.length_take]; omega
  by_cases h1 : i < p
  · rw [if_neg (by omega), List.append_assoc, List.getElem?_append_left (by omega), List.getElem?_take, if_pos h1]
  · rw [List.append_assoc, List.getElem?_append_right (by omega), hp]
    by_cases h2 : i < p + b.length
    · rw [if_pos (by omega), List.getElem?_append_left (by omega)]
    · rw [if_neg (by omega), List.getElem?_append_right (by omega), List.getElem?_drop]
      congr 1; omega
theorem range_patch {w : World} {bb p : Nat} {dat b : List UInt8} (hr : w.rangeAt bb 0 (U8 dat)) (ht : w.there bb 0 dat.length) (h : p + b.length ≤ dat.length) : (w.setCells bb p (U8 b)).rangeAt bb 0 (U8 (patch dat p b)) := by
  have h1 := World.rangeAt_setCells_same w bb p (U8 b) (fun j hj => by
    rw [U8_length] at hj
    have := ht (p + j) (by omega)
    rwa [Nat.zero_add] at this)
  intro i v hi
  rw [Nat.zero_add]
  rw [U8_get, patch_get dat p b h] at hi
  by_cases hin : p ≤ i ∧ i < p + b.length
  · rw [if_pos hin] at hi
    have := h1 (i - p) v (by rw [U8_get]; exact hi)
    rwa [show p + (i - p) = i by omega] at this
  · rw [if_neg hin] at hi
    rw [World.cell?_setCells_out _ _ _ _ _ (fun _ _ => by rw [U8_length]; show i < p ∨ _ ≤ i; omega)]
    have := hr i v (by rw [U8_get]; exact hi)
    rwa [Nat.zero_add] at this
/-- Bytes copied into a flash's own. -/
theorem FlashAt.patched {w : World} {g bb wb : Nat} {F : Fl} (h : FlashAt w g bb wb F) (p : Nat) (b : List UInt8) (hb : p + b.length ≤ F.dat.length) : FlashAt (w.setCells bb p (U8 b)) g bb wb { F with dat := patch F.dat p b } :=
  h.bytes ((Only.refl _ bb w).setCells _ p) _ (patch_length _ _ _ hb) (range_patch h.dat h.datw hb) (by rw [patch_length _ _ _ hb]; exact World.there_setCells h.datw _ _ _)
theorem cell0_set {w : World} {g bb : Nat} (vs : List Value) (h : g ≠ bb) (p j : Nat) : (w.setCells bb p vs).cell? ⟨g, j, none⟩ = w.cell? ⟨g, j, none⟩ :=
  ((Only.refl (g + 1) bb w).setCells vs p).cell (p := ⟨g, j, none⟩) (Nat.lt_succ_self _) h
end Go.Proofs.Ytpdlipkmojhnnaa
