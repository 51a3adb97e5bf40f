/-
  The examples that every statement of layer 3 asks first.
-/
import Derived.Test.YtpdlipkmojhnnaaFlashNew
namespace Go.Proofs.Ytpdlipkmojhnnaa
open Go.RowKit
set_option maxRecDepth 100000
section
variable {w : World} {g bb wb : Nat} {F : Fl}
theorem prog_ok (p : Nat) (A : Option Addr) (n c : Nat) (b : List UInt8) (ec : Int) (h : FlashAt w g bb wb F) (hb : Bs w w.heap.size A n b) (hoff : 0 < n → Off g A ∧ Off bb A ∧ Off wb A) (hc : ck F p n = 0) (hcap : n ≤ c) (hr : F.cut = true → 0 ≤ F.rest)
    (hk : okBits (piece F p n) b = true) (hec : (if gone F n = true then (30 : Int) else 0) = ec) :
    Calls Try.prog 67 #[.pointer (some ⟨g, 0, none⟩), .int .i64 (p : Int), .slice A n c] w fun e w' => e = .returned (.int .i64 ec) ∧ FlashAt w' g bb wb (progBy F p b) ∧ But3 w.heap.size g bb wb w w' :=
  (prog_yes w g bb wb F p A n c b h hb hoff hc hcap hr).mono fun e w' he => by
    rcases he with ⟨h1, _⟩ | ⟨_, h2, h3, h4⟩
    · rw [hk] at h1; cases h1
    · rw [hec] at h2; exact ⟨h2, h3, h4⟩
theorem prog_bad (p : Nat) (A : Option Addr) (n c : Nat) (b : List UInt8) (h : FlashAt w g bb wb F) (hb : Bs w w.heap.size A n b) (hoff : 0 < n → Off g A ∧ Off bb A ∧ Off wb A) (hc : ck F p n = 0) (hcap : n ≤ c) (hr : F.cut = true → 0 ≤ F.rest)
    (hk : okBits (piece F p n) b = false) :
    Calls Try.prog 67 #[.pointer (some ⟨g, 0, none⟩), .int .i64 (p : Int), .slice A n c] w fun e w' => e = .returned (.int .i64 31) ∧ w' = w :=
  (prog_yes w g bb wb F p A n c b h hb hoff hc hcap hr).mono fun e w' he => by
    rcases he with ⟨_, h2, h3⟩ | ⟨h1, _⟩
    · exact ⟨h2, h3⟩
    · rw [hk] at h1; cases h1
theorem FlashAt.alloc (h : FlashAt w g bb wb F) (o : Obj) : FlashAt (w.alloc o) g bb wb F := h.below (alloc_below w o)
theorem off_lit (h : FlashAt w g bb wb F) : Off g (some ⟨w.heap.size, 0, none⟩) ∧ Off bb (some ⟨w.heap.size, 0, none⟩) ∧ Off wb (some ⟨w.heap.size, 0, none⟩) := by
  have := h.lt
  refine ⟨fun a ha => ?_, fun a ha => ?_, fun a ha => ?_⟩ <;> (injection ha with ha; subst ha; show w.heap.size ≠ _; omega)
/-- Bytes that stand in the text are programmed. -/
theorem lit_ok (p : Nat) (pi : Int) (n : Nat) (b : List UInt8) (cs : Array Value) (fr : Nat × Nat) (ec : Int) (hp : pi = (p : Int)) (hcs : cs.toList = U8 b) (hn : b.length = n) (h : FlashAt w g bb wb F) (hc : ck F p n = 0) (hr : F.cut = true → 0 ≤ F.rest)
    (hk : okBits (piece F p n) b = true) (hec : (if gone F n = true then (30 : Int) else 0) = ec) :
    Calls Try.prog 67 #[.pointer (some ⟨g, 0, none⟩), .int .i64 pi, .slice (some ⟨w.heap.size, 0, none⟩) n n] (w.alloc (.cells cs 5 fr)) fun e w' => e = .returned (.int .i64 ec) ∧ FlashAt w' g bb wb (progBy F p b) ∧ But3 w.heap.size g bb wb w w' := by
  subst hn hp
  refine (prog_ok p _ _ _ b ec (h.alloc _) (Bs.lit_ w 5 cs fr b hcs).lt (fun _ => off_lit h) hc (Nat.le_refl _) hr hk hec).mono fun e w' ⟨h1, h2, h3⟩ => ⟨h1, h2, (But3.below (alloc_below w _)).trans h3 (by rw [alloc_size]; omega)⟩
theorem lit_bad (p : Nat) (pi : Int) (n : Nat) (b : List UInt8) (cs : Array Value) (fr : Nat × Nat) (hp : pi = (p : Int)) (hcs : cs.toList = U8 b) (hn : b.length = n) (h : FlashAt w g bb wb F) (hc : ck F p n = 0) (hr : F.cut = true → 0 ≤ F.rest)
    (hk : okBits (piece F p n) b = false) :
    Calls Try.prog 67 #[.pointer (some ⟨g, 0, none⟩), .int .i64 pi, .slice (some ⟨w.heap.size, 0, none⟩) n n] (w.alloc (.cells cs 5 fr)) fun e w' => e = .returned (.int .i64 31) ∧ FlashAt w' g bb wb F ∧ But3 w.heap.size g bb wb w w' := by
  subst hn hp
  refine (prog_bad p _ _ _ b (h.alloc _) (Bs.lit_ w 5 cs fr b hcs).lt (fun _ => off_lit h) hc (Nat.le_refl _) hr hk).mono fun e w' ⟨h1, h2⟩ => ?_
  subst h2
  exact ⟨h1, h.alloc _, But3.below (alloc_below w _)⟩
theorem read_c (pi ni : Int) (p n : Nat) (hp : pi = (p : Int)) (hn : ni = (n : Int)) (h : FlashAt w g bb wb F) (hc : ck F p n = 0) :
    Calls Try.prog 53 #[.pointer (some ⟨g, 0, none⟩), .int .i64 pi, .int .i64 ni] w fun e w' => e = .returned (.tuple #[.slice (some ⟨w.heap.size, 0, none⟩) n n, .int .i64 0]) ∧ Bs w' w'.heap.size (some ⟨w.heap.size, 0, none⟩) n (piece F p n) ∧ Below w.heap.size w w' ∧ w.heap.size + 1 ≤ w'.heap.size ∧ MI w' w.heap.size n := by
  subst hp hn
  exact read_yes w g bb wb F p n h hc
theorem Bs.at_ {w : World} {B n b o : Nat} {l : List UInt8} (h : Bs w B (some ⟨b, o, none⟩) n l) (k : Nat) (u : UInt8) (hu : l[k]? = some u) : w.cell? ⟨b, o + k, none⟩ = some (.int .u8 (u.toNat : Int)) := by
  obtain ⟨b', o', e, _, hc⟩ := h.place (by have := (List.getElem?_eq_some_iff.1 hu).1; have := h.len; omega)
  injection e with e
  injection e with e1 e2 _
  subst e1 e2
  exact hc k u hu
end
def A0 : Fl := fresh 2 16
def A1 : Fl := progBy A0 0 [240]
def A2 : Fl := progBy A1 0 [48]
def A4 : Fl := { A2 with cut := true, rest := 2 }
def A5 : Fl := progBy A4 16 [1, 2, 3]
def A6 : Fl := { A5 with cut := false, down := false }
def A7 : Fl := eraseBy A6 1
theorem a0c : ck A0 (0 : Nat) (1 : Nat) = 0 := by decide +kernel
theorem a0k : okBits (piece A0 0 1) [240] = true := by decide +kernel
theorem a0g : (if gone A0 1 = true then (30 : Int) else 0) = 0 := by decide +kernel
theorem a1c : ck A1 (0 : Nat) (1 : Nat) = 0 := by decide +kernel
theorem a1k : okBits (piece A1 0 1) [48] = true := by decide +kernel
theorem a1g : (if gone A1 1 = true then (30 : Int) else 0) = 0 := by decide +kernel
theorem a2c : ck A2 (0 : Nat) (1 : Nat) = 0 := by decide +kernel
theorem a2k : okBits (piece A2 0 1) [112] = false := by decide +kernel
theorem a2r : ck A2 (0 : Nat) (2 : Nat) = 0 := by decide +kernel
theorem a2p : piece A2 0 2 = [48, 255] := by decide +kernel
theorem a4c : ck A4 (16 : Nat) (3 : Nat) = 0 := by decide +kernel
theorem a4k : okBits (piece A4 16 3) [1, 2, 3] = true := by decide +kernel
theorem a4g : (if gone A4 3 = true then (30 : Int) else 0) = 30 := by decide +kernel
theorem a5c : ck A5 0 1 = 30 := by decide +kernel
theorem a5d : A5.down = true := by decide +kernel
theorem a6c : ck A6 (16 : Nat) (3 : Nat) = 0 := by decide +kernel
theorem a6p : piece A6 16 3 = [1, 2, 255] := by decide +kernel
theorem a6g : (if gone A6 A6.sec = true then (30 : Int) else 0) = 0 := by decide +kernel
theorem a7w : wearS A7 1 = 1 := by decide +kernel
theorem a7t : A7.turned = 20 := by decide +kernel
theorem a7l : A7.dat.length = 32 := by decide +kernel
theorem a7s : A7.sec = 16 := by decide +kernel
theorem a7i : A7.dat[16]? = some 255 := by decide +kernel
end Go.Proofs.Ytpdlipkmojhnnaa
