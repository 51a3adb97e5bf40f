/-
  What package bytes does for heads: beginnings, ends, copies.
-/
import Derived.Test.YtiieianbmldnbaaDoorImgHead
import Derived.Lib.LazyBuf
namespace Go.Proofs.YtiieianbmldnbaaDoor
open Go.RowKit
set_option maxRecDepth 100000
set_option maxRecDepth 100000
theorem str_list (l : List UInt8) : (⟨l.toArray⟩ : ByteArray).toList = l := by rw [ByteArray.toList_eq]
theorem str_beq (l1 l2 : List UInt8) : ((⟨l1.toArray⟩ : ByteArray).toList == (⟨l2.toArray⟩ : ByteArray).toList) = decide (l1 = l2) := by
  rw [str_list, str_list, Bool.eq_iff_iff, beq_iff_eq, decide_eq_true_eq]
theorem equal_any (A1 A2 : Option Addr) (n1 c1 n2 c2 : Nat) (l1 l2 : List UInt8) (w : World) (B1 B2 : Nat) (h1 : Bs w B1 A1 n1 l1) (h2 : Bs w B2 A2 n2 l2) :
    Calls Tryd.prog 43 #[.slice A1 n1 c1, .slice A2 n2 c2] w fun e w' => e = .returned (.bool (decide (l1 = l2))) ∧ w' = w := by
  have q1 := run_string_bs (P := Tryd.prog) h1 26 9 5 c1 Tryd.underlying26 Tryd.underlying5 Tryd.underlying9
  have q2 := run_string_bs (P := Tryd.prog) h2 26 9 5 c2 Tryd.underlying26 Tryd.underlying5 Tryd.underlying9
  rw [← str_beq]
  generalize (⟨l1.toArray⟩ : ByteArray) = s1 at *
  generalize (⟨l2.toArray⟩ : ByteArray) = s2 at *
  go_enter Tryd.func43, Tryd.ntmps43
  go_wp2
  go_ret
  exact ⟨rfl, rfl⟩
theorem hasPrefix_any (A1 A2 : Option Addr) (n1 c1 n2 c2 : Nat) (l1 l2 : List UInt8) (w : World) (B1 B2 : Nat) (h1 : Bs w B1 A1 n1 l1) (h2 : Bs w B2 A2 n2 l2) (hc : n1 ≤ c1) :
    Calls Tryd.prog 29 #[.slice A1 n1 c1, .slice A2 n2 c2] w fun e w' => e = .returned (.bool (decide (n2 ≤ n1 ∧ l1.take n2 = l2))) ∧ w' = w := by
  by_cases h : n2 ≤ n1
  · have hi : (n2 : Int) ≤ n1 := by omega
    have hci : (n2 : Int) ≤ c1 := by omega
    go_enter Tryd.func29, Tryd.ntmps29
    go_wp2_with fail
    refine (equal_any A1 A2 n2 c1 n2 c2 (l1.take n2) l2 w B1 B2 (h1.take_ n2 h) h2).mono ?_
    rintro e w' ⟨rfl, hw⟩
    obtain rfl := hw.symm
    go_wp2
    go_ret
    exact ⟨by rw [decide_eq_decide.2 (show (n2 ≤ n1 ∧ l1.take n2 = l2) ↔ l1.take n2 = l2 from ⟨fun h => h.2, fun e => ⟨h, e⟩⟩)]; rfl, rfl⟩
  · have hi : ¬ (n2 : Int) ≤ n1 := by omega
    go_enter Tryd.func29, Tryd.ntmps29
    go_wp2
    go_ret
    exact ⟨by simp, rfl⟩
/-- How many of the first k bytes are left when bytes 0 at the end are taken away. -/
def tz (l : List UInt8) : Nat → Nat
  | 0 => 0
  | k + 1 => if l.getD k 0 = 0 then tz l k else k + 1
theorem tz_le (l : List UInt8) : ∀ k, tz l k ≤ k
  | 0 => Nat.le_refl _
  | k + 1 => by
    have := tz_le l k
    unfold tz
    split <;> omega
set_option maxHeartbeats 800000 in
theorem trimByte_any (b o n c : Nat) (l : List UInt8) (w : World) (B : Nat) (h : Bs w B (some ⟨b, o, none⟩) n l) (hc : n ≤ c) (hn : (n : Int) ≤ 65536) :
    Calls Tryd.prog 44 #[.slice (some ⟨b, o, none⟩) n c, .int .u8 0] w fun e w' => e = .returned (.slice (some ⟨b, o, none⟩) (tz l n) c) ∧ w' = w := by
  have hlen := Lib.hid h.len
  go_enter Tryd.func44, Tryd.ntmps44
  go_wp2
  go_loopw [0] (fun v wr => ∃ k : Nat, k ≤ n ∧ v = .slice (some ⟨b, o, none⟩) k c ∧ wr = w ∧ Hid (tz l k = tz l n)) (fun v _ => match v with | .slice _ k _ => k | _ => 0)
  case atStart => exact ⟨n, Nat.le_refl _, rfl, rfl, rfl⟩
  case round =>
    obtain ⟨k, hk, rfl, hw, hz⟩ := hrel
    obtain rfl := hw.symm
    match k, hk, hz with
    | 0, _, hz =>
      go_wp2
      go_ret
      exact ⟨by rw [← hz.out]; rfl, rfl⟩
    | k + 1, hk, hz =>
      obtain ⟨b', o', e, hb, hcl⟩ := h.place (by omega)
      injection e with e
      injection e with e1 e2 _
      subst e1 e2
      obtain ⟨u, hu⟩ := byte_get (l := l) (k := k) (by rw [hlen.out]; omega)
      have hck := hcl k u hu
      have hu' : l.getD k 0 = u := by rw [List.getD_eq_getElem?_getD, hu]; rfl
      have hst : tz l (k + 1) = if u = 0 then tz l k else k + 1 := by rw [← hu']; rfl
      have hz' := hz.out
      clear hz
      have g0 : (0 : Int) < ((k + 1 : Nat) : Int) := by omega
      have g1 : (((k + 1 : Nat) : Int) - 1) = (k : Int) := by omega
      have g2 : (k : Int) < ((k + 1 : Nat) : Int) := by omega
      have g3 : (k : Int) ≤ (c : Int) := by omega
      by_cases hz0 : u = 0
      · have hq : ((u.toNat : Int) == 0) = true := by rw [hz0]; rfl
        rw [if_pos hz0] at hst
        have Hq := Lib.hid (hst.symm.trans hz')
        clear hst hz' hu' hu hcl
        go_wp2
        go_roundw
        case rel => exact ⟨k, by omega, by first | rfl | trivial, by first | rfl | trivial, Hq⟩
        case measure => simp
      · have hq : ((u.toNat : Int) == 0) = false := beq_eq_false_iff_ne.2 (fun e => hz0 (UInt8.toNat_inj.1 (by simpa using e)))
        rw [if_neg hz0] at hst
        have Hq := Lib.hid (hst.symm.trans hz')
        clear hst hz' hu' hu hcl
        go_wp2
        go_ret
        exact ⟨by rw [← Hq.out]; rfl, rfl⟩
theorem trimRight_any (b o n c : Nat) (l : List UInt8) (w : World) (B : Nat) (h : Bs w B (some ⟨b, o, none⟩) n l) (hc : n ≤ c) (hn : (n : Int) ≤ 65536) (h0 : 0 < n) :
    Calls Tryd.prog 32 #[.slice (some ⟨b, o, none⟩) n c, .string ⟨#[0]⟩] w fun e w' => e = .returned (.slice (some ⟨b, o, none⟩) (tz l n) c) ∧ w' = w := by
  have hq : ((n : Int) == 0) = false := beq_eq_false_iff_ne.2 (by omega)
  go_enter Tryd.func32, Tryd.ntmps32
  go_wp2_with fail
  refine (trimByte_any b o n c l w B h hc hn).mono ?_
  rintro e w' ⟨rfl, hw⟩
  obtain rfl := hw.symm
  go_wp2
  go_ret
  exact ⟨rfl, rfl⟩
theorem own_lit0 (w : World) : (w.alloc (.cells #[] 5)).ownsRow w.heap.size 5 1 (.slice (some ⟨w.heap.size, 0, none⟩) 0 0) 0 (U8 []) :=
  ⟨rfl, .inr ⟨w.heap.size, 0, _, rfl, Nat.le_refl _, heap_alloc_new w _, Nat.le_refl _, Nat.zero_le _, rfl, rfl⟩⟩
/-- A copy in new memory (of a slice that isn't nil). -/
theorem clone_any (b o n c : Nat) (l : List UInt8) (w : World) (B : Nat) (h : Bs w B (some ⟨b, o, none⟩) n l) (hB : B ≤ w.heap.size) (hn : (n : Int) ≤ 65536) :
    Calls Tryd.prog 39 #[.slice (some ⟨b, o, none⟩) n c] w (RetOwn 5 l w) := by
  obtain ⟨i0, hi0, hzz, hz2, hz3⟩ := info_parts info_u8
  have hlen := Lib.hid h.len
  have hq : ∀ w : World, (binOp .eql 26 (.slice (some ⟨b, o, none⟩) n c) (.slice none 0 0)).run Tryd.prog w = .ok (.bool false) w := fun w => run_eql_slice_nil w 26 5 _ n c Tryd.underlying26
  go_enter Tryd.func39, Tryd.ntmps39
  go_wp2_with (at_builtin; refine wpList_append_bs _ rfl (.tmp 5) (.tmp 6) 26 rfl w.heap.size 5 i0 Tryd.underlying26 hi0 hzz hz2 hz3 (.slice (some ⟨w.heap.size, 0, none⟩) 0 0) 0 (U8 []) rfl (own_lit0 w) B (some ⟨b, o, none⟩) n c l rfl (h.alloc hB _) (by omega) (by rw [alloc_size]; omega) ?_; intro v2 w2 ho2 hg2)
  go_ret
  rw [Nat.zero_add, ← hlen.out] at ho2
  exact ⟨_, rfl, ho2, (alloc_below w _).grown hg2 (by rw [alloc_size]; omega) (own_ge (own_lit0 w))⟩
end Go.Proofs.YtiieianbmldnbaaDoor
