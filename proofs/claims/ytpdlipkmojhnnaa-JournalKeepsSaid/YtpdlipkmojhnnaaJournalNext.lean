/-
  The journal in memory behind turn and lay.
-/
import Derived.Test.YtpdlipkmojhnnaaJournalPut
namespace Go.Proofs.Ytpdlipkmojhnnaa
open Go.RowKit Go.Maps Go.Shelf
set_option maxRecDepth 100000
theorem heap_setCells (b : Nat) : ∀ (vs : List Value) (o : Nat) (w : World) (k : Nat), k ≠ b → (w.setCells b o vs).heap[k]? = w.heap[k]?
  | [], _, _, _, _ => rfl
  | v :: r, o, w, k, h => by rw [World.setCells, heap_setCells b r _ _ k h, Below.heap_setCell w _ v k h]
theorem JAt.apart {W : World} {J : JP} {F : Fl} {s : JS} (h : JAt W J F s) (i : Nat) (hi : i < 2) : J.pp i ≠ J.jb := fun e => by
  have h0 := (h.part i hi).c0
  rw [e, h.c0 0 (by omega)] at h0
  injection h0 with h0
  injection h0 with h0
  injection h0 with h0
  injection h0 with h0
  exact (h.off 0 (by omega)).1 h0
/-- Some of the journal's cells written anew, the flash turned. -/
theorem JAt.turned {W w1 : World} {J : JP} {F F' : Fl} {s s' : JS} (h : JAt W J F s) (bt : But3 W.heap.size J.g J.bb J.wb W w1) (o : Nat) (vs : List Value) (h2o : 3 ≤ o)
    (hf : FlashAt (w1.setCells J.jb o vs) J.g J.bb J.wb F') (hs : Sane F') (hd : F'.sec = F.sec ∧ F'.wear.length = F.wear.length)
    (c3 : (w1.setCells J.jb o vs).cell? ⟨J.jb, 3, none⟩ = some (.int .i64 (s'.cnt : Int))) (c4 : (w1.setCells J.jb o vs).cell? ⟨J.jb, 4, none⟩ = some (.int .u32 s'.ep)) (c5 : (w1.setCells J.jb o vs).cell? ⟨J.jb, 5, none⟩ = some (.int .i64 (s'.en : Int))) (c6 : (w1.setCells J.jb o vs).cell? ⟨J.jb, 6, none⟩ = some (.map s'.pv))
    (hsz : s'.size = s.size) (hv : Vals W J.lo s'.pv s'.D s'.V) (hcnt : s'.cnt < 2) (hep : 0 ≤ s'.ep ∧ s'.ep < 4294967296) (hen : s'.en ≤ s'.size) : JAt (w1.setCells J.jb o vs) J F' s' := by
  have hl : J.jb < W.heap.size := World.block_lt_of_cell? _ _ h.c2
  have hz := size_setCells_ vs J.jb o w1
  have hjb : w1.heap[J.jb]? = W.heap[J.jb]? := bt.block _ hl h.joff.1 h.joff.2.1 h.joff.2.2
  have hc : ∀ j, j < 3 → (w1.setCells J.jb o vs).cell? ⟨J.jb, j, none⟩ = W.cell? ⟨J.jb, j, none⟩ := fun j hj =>
    (World.cell?_setCells_out J.jb vs o w1 _ (fun _ _ => Or.inl (show j < o by omega))).trans (World.cell?_of_block (w := W) hjb)
  have hth : w1.there J.jb 0 7 := fun j hj => by
    have hh := h.frz j hj
    rw [World.cell?_of_block (w := W) (w' := w1) hjb, World.frozen?_of_block (w := W) (w' := w1) hjb]
    exact hh
  have hk : ∀ k, k < W.heap.size → k ≠ J.jb → k ≠ J.g → k ≠ J.bb → k ≠ J.wb → (w1.setCells J.jb o vs).heap[k]? = W.heap[k]? := fun k h1 h2 h3 h4 h5 => (heap_setCells J.jb vs o w1 k h2).trans (bt.block k h1 h3 h4 h5)
  refine ⟨fun i hi => (hc i (by omega)).trans (h.c0 i hi), (hc 2 (by omega)).trans (hsz ▸ h.c2), c3, c4, c5, c6, World.there_setCells hth J.jb o vs, fun i hi => ?_, fun i hi => ?_, hf, hs, h.off, h.joff, h.low, h.jlow, ?_, hcnt, hep, fun i hi => hsz ▸ h.size i hi, hen, by rw [hz]; exact Nat.le_trans h.top bt.size⟩
  · have ho := h.off i hi
    exact (h.part i hi).keep (hk _ (h.part i hi).lt (h.apart i hi) ho.1 ho.2.1 ho.2.2) (by rw [hz]; exact bt.size)
  · have := h.ok i hi
    exact ⟨this.one, by rw [hd.2]; exact this.in_, by rw [hd.1]; exact this.be, by rw [hd.1]; exact this.si⟩
  · have := h.low
    have := h.jlow
    exact hv.same (by rw [hz]; exact bt.size) fun b h1 h2 => hk b h2 (by omega) (by omega) (by omega) (by omega)
theorem jwrote_dims (F : Fl) (be si p : Nat) (b : List UInt8) (hf : be + si ≤ F.dat.length) : (jwrote F be si p b).1.sec = F.sec ∧ (jwrote F be si p b).1.wear = F.wear := by
  have h1 := pwrote_same F be si p b hf
  unfold jwrote
  split
  · have h2 := pwrote_same (pwrote F be si p b).1 be si (p + b.length : Nat) [0] (by rw [h1.1]; exact hf)
    exact ⟨h2.2.1.trans h1.2.1, h2.2.2.trans h1.2.2⟩
  · exact h1.2
/-- .. behind a record. -/
theorem JAt.wrote {W w1 : World} {J : JP} {F F' : Fl} {s : JS} (h : JAt W J F s) (pn : Option Nat) (D : DataW Value) (V : Int → Option (List UInt8)) (hV : Vals W J.lo pn D V) (b : List UInt8) (hroom : b.length + 1 + s.en ≤ s.size) (en' : Int)
    (hj : jwrote F (J.be s.cnt) (J.si s.cnt) s.en b = (F', en', 0)) (bt : But3 W.heap.size J.g J.bb J.wb W w1) (hf : FlashAt (w1.setCells J.jb 5 [.int .i64 en', .map pn]) J.g J.bb J.wb F') :
    JAt (w1.setCells J.jb 5 [.int .i64 en', .map pn]) J F' { s with en := s.en + b.length + 1, pv := pn, D := D, V := V } := by
  have hl : J.jb < W.heap.size := World.block_lt_of_cell? _ _ h.c2
  have hjb : w1.heap[J.jb]? = W.heap[J.jb]? := bt.block _ hl h.joff.1 h.joff.2.1 h.joff.2.2
  have hc : ∀ j, j < 5 → (w1.setCells J.jb 5 [.int .i64 en', .map pn]).cell? ⟨J.jb, j, none⟩ = W.cell? ⟨J.jb, j, none⟩ := fun j hj =>
    (World.cell?_setCells_out J.jb _ 5 w1 _ (fun _ _ => Or.inl (show j < 5 by omega))).trans (World.cell?_of_block (w := W) hjb)
  have hth : w1.there J.jb 5 2 := fun j hj => by
    have hh := h.frz (5 + j) (by omega)
    rw [Nat.zero_add] at hh
    rw [World.cell?_of_block (w := W) (w' := w1) hjb, World.frozen?_of_block (w := W) (w' := w1) hjb]
    exact hh
  have hr := World.rangeAt_setCells_same w1 J.jb 5 [.int .i64 en', .map pn] hth
  have hft := (h.ok s.cnt h.cnt).fits h.fl.ok
  have hd := jwrote_dims F (J.be s.cnt) (J.si s.cnt) s.en b hft
  have hsn := jwrote_sane h.sane (J.be s.cnt) (J.si s.cnt) s.en b
  have he := jwrote_end (F := F) (be := J.be s.cnt) (si := J.si s.cnt) (p := s.en) (b := b) (by rw [hj])
  rw [hj] at hd hsn he
  have he' : en' = ((s.en + b.length + 1 : Nat) : Int) := he
  refine h.turned (s' := { s with en := s.en + b.length + 1, pv := pn, D := D, V := V }) bt 5 _ (by omega) hf hsn ⟨hd.1, by rw [hd.2]⟩ ((hc 3 (by omega)).trans h.c3) ((hc 4 (by omega)).trans h.c4) ?_ ?_ rfl hV h.cnt h.ep (by show s.en + b.length + 1 ≤ s.size; omega)
  · have := hr 0 _ rfl
    rw [Nat.add_zero] at this
    rw [this, he']
  · exact hr 1 _ rfl
theorem layRecs_ok (be si : Nat) (V : Int → Option (List UInt8)) : ∀ (l : List Int) (F : Fl) (p : Nat), be + si ≤ F.dat.length → Sane F →
    Sane (layRecs be si V l F p).1 ∧ (layRecs be si V l F p).1.dat.length = F.dat.length ∧ (layRecs be si V l F p).1.sec = F.sec ∧ (layRecs be si V l F p).1.wear = F.wear ∧ ((layRecs be si V l F p).2.2 = 0 → (layRecs be si V l F p).2.1 = p + sumOn V (fun _ => true) l)
  | [], F, p, _, hs => ⟨hs, rfl, rfl, rfl, fun _ => rfl⟩
  | k :: r, F, p, hf, hs => by
    have s1 := jwrote_sane hs be si p (recOf V k)
    have s2 := jwrote_same F be si p (recOf V k) hf
    have s3 := jwrote_dims F be si p (recOf V k) hf
    have hl := recOf_length V k
    rw [layRecs]
    by_cases he : (jwrote F be si p (recOf V k)).2.2 = 0
    · rw [if_pos he]
      obtain ⟨a1, a2, a3, a4, a5⟩ := layRecs_ok be si V r (jwrote F be si p (recOf V k)).1 (p + (recOf V k).length + 1) (by rw [s2]; exact hf) s1
      refine ⟨a1, a2.trans s2, a3.trans s3.1, a4.trans s3.2, fun e => ?_⟩
      have e2 : sumOn V (fun _ => true) (k :: r) = (7 + ((V k).getD []).length) + sumOn V (fun _ => true) r := rfl
      rw [a5 e, e2, hl]
      omega
    · rw [if_neg he]
      exact ⟨s1, s2, s3.1, s3.2, fun e => absurd e he⟩
theorem layHead_ok (be si : Nat) (ep : Int) (F : Fl) (hf : be + si ≤ F.dat.length) (hs : Sane F) : Sane (layHead be si ep F).1 ∧ (layHead be si ep F).1.dat.length = F.dat.length ∧ (layHead be si ep F).1.sec = F.sec ∧ (layHead be si ep F).1.wear = F.wear := by
  have h1 := pwrote_same F be si 1 (p32 ep) hf
  have n1 := pwrote_sane hs be si 1 (p32 ep)
  unfold layHead
  split
  · have h2 := pwrote_same (pwrote F be si 1 (p32 ep)).1 be si 0 [0] (by rw [h1.1]; exact hf)
    exact ⟨pwrote_sane n1 be si 0 [0], h2.1.trans h1.1, h2.2.1.trans h1.2.1, h2.2.2.trans h1.2.2⟩
  · exact ⟨n1, h1⟩
theorem laid_ok (be si : Nat) (V : Int → Option (List UInt8)) (ep : Int) (F : Fl) (hf : be + si ≤ F.dat.length) (hs : Sane F) : Sane (laid be si V ep F).1 ∧ (laid be si V ep F).1.dat.length = F.dat.length ∧ (laid be si V ep F).1.sec = F.sec ∧ (laid be si V ep F).1.wear = F.wear ∧ ((laid be si V ep F).2.2 = 0 → (laid be si V ep F).2.1 = sizeAll V) := by
  obtain ⟨a1, a2, a3, a4, a5⟩ := layRecs_ok be si V (keysOf V) F 8 hf hs
  unfold laid
  split
  · rename_i he
    obtain ⟨b1, b2, b3, b4⟩ := layHead_ok be si ep (layRecs be si V (keysOf V) F 8).1 (by rw [a2]; exact hf) a1
    exact ⟨b1, b2.trans a2, b3.trans a3, b4.trans a4, fun _ => a5 he⟩
  · exact ⟨a1, a2, a3, a4, a5⟩
/-- .. behind a move. -/
theorem JAt.laid_ {W w1 : World} {J : JP} {F F' : Fl} {s : JS} (h : JAt W J F s) (pn : Option Nat) (D : DataW Value) (V : Int → Option (List UInt8)) (hV : Vals W J.lo pn D V) (hroom : sizeAll V ≤ s.size) (gi : Nat) (hgi : gi < 2) (ep : Int) (h0 : 0 ≤ ep) (h1 : ep < 4294967296) (G : Fl) (hw : Within (J.be gi) (J.si gi) F G) (hsn : Sane G) (p' : Nat)
    (hl : (F', p', (0 : Int)) = laid (J.be gi) (J.si gi) V ep G) (bt : But3 W.heap.size J.g J.bb J.wb W w1) (hf : FlashAt (w1.setCells J.jb 3 [.int .i64 (gi : Int), .int .u32 ep, .int .i64 (p' : Int), .map pn]) J.g J.bb J.wb F') :
    JAt (w1.setCells J.jb 3 [.int .i64 (gi : Int), .int .u32 ep, .int .i64 (p' : Int), .map pn]) J F' { s with cnt := gi, ep := ep, en := p', pv := pn, D := D, V := V } := by
  have hjl : J.jb < W.heap.size := World.block_lt_of_cell? _ _ h.c2
  have hjb : w1.heap[J.jb]? = W.heap[J.jb]? := bt.block _ hjl h.joff.1 h.joff.2.1 h.joff.2.2
  have hth : w1.there J.jb 3 4 := fun j hj => by
    have hh := h.frz (3 + j) (by omega)
    rw [Nat.zero_add] at hh
    rw [World.cell?_of_block (w := W) (w' := w1) hjb, World.frozen?_of_block (w := W) (w' := w1) hjb]
    exact hh
  have hr := World.rangeAt_setCells_same w1 J.jb 3 [.int .i64 (gi : Int), .int .u32 ep, .int .i64 (p' : Int), .map pn] hth
  have hft := (h.ok gi hgi).fits h.fl.ok
  obtain ⟨a1, a2, a3, a4, a5⟩ := laid_ok (J.be gi) (J.si gi) V ep G (by rw [hw.len]; exact hft) hsn
  rw [← hl] at a1 a2 a3 a4 a5
  have hp : p' = sizeAll V := a5 rfl
  refine h.turned (s' := { s with cnt := gi, ep := ep, en := p', pv := pn, D := D, V := V }) bt 3 _ (by omega) hf a1 ⟨a3.trans hw.sec, by rw [a4]; exact hw.wear⟩ (hr 0 _ rfl) (hr 1 _ rfl) (hr 2 _ rfl) (hr 3 _ rfl) rfl hV hgi ⟨h0, h1⟩ (by show p' ≤ s.size; omega)
end Go.Proofs.Ytpdlipkmojhnnaa
