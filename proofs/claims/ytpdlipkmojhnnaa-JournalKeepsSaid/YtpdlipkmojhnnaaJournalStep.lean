/-
  What is written where a flash is on and blank: its bytes.
-/
/-
  The law's groups: a flash and its two parts.
-/
/-
  A group laid while the power is there: it goes well. A journal opened on an erased flash.
-/
/-
  Put and Drop while the power is there: what comes of them.
-/
import Derived.Test.YtpdlipkmojhnnaaJournalMake
namespace Go.Proofs.Ytpdlipkmojhnnaa
open Go.RowKit Go.Maps Go.Shelf
set_option maxRecDepth 100000
set_option linter.unusedVariables false
set_option maxRecDepth 100000
/-- The power is there, and will be. -/
def On (F : Fl) : Prop := F.cut = false ∧ F.down = false
/-- From a to b all bytes are 255. -/
def Blk (F : Fl) (a b : Nat) : Prop := ∀ i, a ≤ i → i < b → F.dat[i]? = some 255
theorem On.sane {F : Fl} (h : On F) : Sane F := fun e => by rw [h.1] at e; cases e
theorem blk_ok {F : Fl} {q : Nat} {b : List UInt8} (h : Blk F q (q + b.length)) : okBits (piece F q b.length) b = true := by
  have e : piece F q b.length = List.replicate b.length 255 := by
    refine List.ext_getElem? fun i => ?_
    unfold piece
    rw [List.getElem?_take, List.getElem?_replicate]
    by_cases hi : i < b.length
    · rw [if_pos hi, if_pos hi, List.getElem?_drop, h (q + i) (by omega) (by omega)]
    · rw [if_neg hi, if_neg hi]
  rw [e]; exact okBits_255 _ _ (Nat.le_refl _)
theorem progBy_on {F : Fl} (h : On F) (q : Nat) (b : List UInt8) : On (progBy F q b) ∧ (progBy F q b).dat = patch F.dat q b ∧ (progBy F q b).sec = F.sec ∧ (progBy F q b).wear = F.wear := by
  refine ⟨⟨h.1, ?_⟩, progBy_dat h.1 q b, rfl, rfl⟩
  show (F.down || gone F b.length) = false
  rw [h.2, gone_nocut h.1]; rfl
theorem pwrote_on {F : Fl} (h : On F) (be si p : Nat) (b : List UInt8) (hp : p + b.length ≤ si) (hok : okBits (piece F (be + p) b.length) b = true) : pwrote F be si (p : Int) b = (progBy F (be + p) b, 0) := by
  have hc : pck F si (p : Int) (b.length : Int) = 0 := by unfold pck; rw [if_neg (by rw [h.2]; decide), if_neg (by omega)]
  unfold pwrote
  rw [if_pos hc]
  unfold wrote
  rw [show ((p : Int)).toNat = p from rfl, if_pos hok, gone_nocut h.1]; rfl
theorem blk_patch {F G : Fl} {q a b : Nat} {l : List UInt8} (hd : G.dat = patch F.dat q l) (hq : q + l.length ≤ F.dat.length) (h : Blk F a b) (hlt : q + l.length ≤ a) : Blk G a b := fun i h1 h2 => by
  rw [hd, patch_get _ _ _ hq, if_neg (by omega)]
  exact h i h1 h2
theorem blk_less {F : Fl} {a b c d : Nat} (h : Blk F a b) (h1 : a ≤ c) (h2 : d ≤ b) : Blk F c d := fun i h3 h4 => h i (by omega) (by omega)
theorem patch_two (d l m : List UInt8) (p : Nat) (h : p + l.length + m.length ≤ d.length) : patch (patch d p l) (p + l.length) m = patch d p (l ++ m) := by
  refine List.ext_getElem? fun i => ?_
  rw [patch_get _ _ _ (by rw [patch_length _ _ _ (by omega)]; omega), patch_get _ _ _ (by omega), patch_get _ _ _ (by rw [List.length_append]; omega), List.length_append]
  by_cases h1 : p + l.length ≤ i ∧ i < p + l.length + m.length
  · rw [if_pos h1, if_pos (by omega), List.getElem?_append_right (by omega)]
    congr 1; omega
  · rw [if_neg h1]
    by_cases h2 : p ≤ i ∧ i < p + l.length
    · rw [if_pos h2, if_pos (by omega), List.getElem?_append_left (by omega)]
    · rw [if_neg h2, if_neg (by omega)]
theorem jwrote_on {F : Fl} (h : On F) (be si p : Nat) (b : List UInt8) (hf : be + si ≤ F.dat.length) (hp : p + b.length + 1 ≤ si) (hb : Blk F (be + p) (be + p + b.length + 1)) :
    ∃ G, jwrote F be si p b = (G, ((p + b.length + 1 : Nat) : Int), 0) ∧ On G ∧ G.dat = patch F.dat (be + p) (b ++ [0]) ∧ G.sec = F.sec ∧ G.wear = F.wear := by
  have h1 := pwrote_on h be si p b (by omega) (blk_ok (blk_less hb (Nat.le_refl _) (by omega)))
  obtain ⟨o1, d1, s1, w1⟩ := progBy_on h (be + p) b
  have hb1 : Blk (progBy F (be + p) b) (be + p + b.length) (be + p + b.length + 1) := blk_patch d1 (by omega) (blk_less hb (by omega) (Nat.le_refl _)) (Nat.le_refl _)
  have h2 := pwrote_on o1 be si (p + b.length) [0] (by simp; omega) (blk_ok (by rw [← Nat.add_assoc]; exact hb1))
  obtain ⟨o2, d2, s2, w2⟩ := progBy_on o1 (be + (p + b.length)) [0]
  refine ⟨progBy (progBy F (be + p) b) (be + (p + b.length)) [0], ?_, o2, ?_, s2.trans s1, w2.trans w1⟩
  · unfold jwrote
    simp only [h1, if_pos]
    rw [h2]
  · rw [d2, d1, ← Nat.add_assoc]
    exact patch_two _ _ _ _ (by simp; omega)
/-- The records of keys, marks and all. -/
def recsOf (V : Int → Option (List UInt8)) (l : List Int) : List UInt8 := l.flatMap fun k => recOf V k ++ [0]
theorem recsOf_length (V : Int → Option (List UInt8)) (l : List Int) : (recsOf V l).length = sumOn V (fun _ => true) l := by
  induction l with
  | nil => rfl
  | cons k r ih =>
    have e2 : sumOn V (fun _ => true) (k :: r) = (7 + ((V k).getD []).length) + sumOn V (fun _ => true) r := rfl
    rw [e2, ← ih]
    show (recsOf V (k :: r)).length = _
    unfold recsOf
    rw [List.flatMap_cons, List.length_append, List.length_append, recOf_length]
    simp; omega
theorem layRecs_on (be si : Nat) (V : Int → Option (List UInt8)) : ∀ (l : List Int) (F : Fl) (p : Nat), On F → be + si ≤ F.dat.length → p + (recsOf V l).length ≤ si → Blk F (be + p) (be + p + (recsOf V l).length) →
    ∃ G, layRecs be si V l F p = (G, p + (recsOf V l).length, 0) ∧ On G ∧ G.dat = patch F.dat (be + p) (recsOf V l) ∧ G.sec = F.sec ∧ G.wear = F.wear
  | [], F, p, h, hf, hp, hb => ⟨F, rfl, h, by
      refine List.ext_getElem? fun i => ?_
      rw [patch_get _ _ _ (by simp [recsOf]; omega), if_neg (by simp [recsOf])], rfl, rfl⟩
  | k :: r, F, p, h, hf, hp, hb => by
    have hl : (recsOf V (k :: r)).length = (recOf V k).length + 1 + (recsOf V r).length := by
      unfold recsOf; rw [List.flatMap_cons, List.length_append, List.length_append]; rfl
    obtain ⟨G, e1, o1, d1, s1, w1⟩ := jwrote_on h be si p (recOf V k) hf (by omega) (blk_less hb (Nat.le_refl _) (by omega))
    have hlen1 : G.dat.length = F.dat.length := by rw [d1, patch_length _ _ _ (by simp; omega)]
    have hb1 : Blk G (be + (p + (recOf V k).length + 1)) (be + (p + (recOf V k).length + 1) + (recsOf V r).length) :=
      blk_patch d1 (by simp; omega) (blk_less hb (by omega) (by omega)) (by simp; omega)
    obtain ⟨K, e2, o2, d2, s2, w2⟩ := layRecs_on be si V r G (p + (recOf V k).length + 1) o1 (by omega) (by omega) hb1
    refine ⟨K, ?_, o2, ?_, s2.trans s1, w2.trans w1⟩
    · rw [layRecs, e1, if_pos rfl, e2, hl]
      congr 2; omega
    · rw [d2, d1]
      have := patch_two F.dat (recOf V k ++ [0]) (recsOf V r) (be + p) (by simp; omega)
      rw [show be + (p + (recOf V k).length + 1) = be + p + (recOf V k ++ [0]).length by simp; omega, this]
      rfl
/-- The bytes of a group that has just been laid, up to its end. -/
def headBytes (ep : Int) (V : Int → Option (List UInt8)) : List UInt8 := 0 :: p32 ep ++ [255, 255, 255] ++ recsOf V (keysOf V)
theorem headBytes_length (ep : Int) (V : Int → Option (List UInt8)) : (headBytes ep V).length = sizeAll V := by
  unfold headBytes sizeAll
  rw [← recsOf_length]
  simp [p32]; omega
theorem laid_on (be si : Nat) (V : Int → Option (List UInt8)) (ep : Int) (F : Fl) (h : On F) (hf : be + si ≤ F.dat.length) (hp : sizeAll V ≤ si) (hb : Blk F be (be + si)) :
    ∃ G, laid be si V ep F = (G, sizeAll V, 0) ∧ On G ∧ G.dat = patch F.dat be (headBytes ep V) ∧ G.sec = F.sec ∧ G.wear = F.wear := by
  have hs : sizeAll V = 8 + (recsOf V (keysOf V)).length := by unfold sizeAll; rw [recsOf_length]
  obtain ⟨G, e1, o1, d1, s1, w1⟩ := layRecs_on be si V (keysOf V) F 8 h hf (by omega) (blk_less hb (by omega) (by omega))
  have hl1 : G.dat.length = F.dat.length := by rw [d1, patch_length _ _ _ (by omega)]
  have q1 : ∀ i, be ≤ i → i < be + 8 → G.dat[i]? = some 255 := fun i h1 h2 => by
    rw [d1, patch_get _ _ _ (by omega), if_neg (by omega)]
    exact hb i h1 (by omega)
  have p1 := pwrote_on o1 be si 1 (p32 ep) (by simp [p32]; omega) (blk_ok (fun i h1 h2 => q1 i (by omega) (by simp [p32] at h2; omega)))
  obtain ⟨o2, d2, s2, w2⟩ := progBy_on o1 (be + 1) (p32 ep)
  have hl2 : (progBy G (be + 1) (p32 ep)).dat.length = F.dat.length := by rw [d2, patch_length _ _ _ (by simp [p32]; omega), hl1]
  have q2 : Blk (progBy G (be + 1) (p32 ep)) (be + 0) (be + 0 + [(0 : UInt8)].length) := fun i h1 h2 => by
    rw [d2, patch_get _ _ _ (by simp [p32]; omega), if_neg (by simp at h2; omega)]
    exact q1 i (by omega) (by simp at h2; omega)
  have p2 := pwrote_on o2 be si 0 [0] (by simp; omega) (blk_ok q2)
  obtain ⟨o3, d3, s3, w3⟩ := progBy_on o2 (be + 0) [0]
  refine ⟨_, ?_, o3, ?_, s3.trans (s2.trans s1), w3.trans (w2.trans w1)⟩
  · have p1' : pwrote G be si (1 : Int) (p32 ep) = (progBy G (be + 1) (p32 ep), 0) := p1
    have p2' : pwrote (progBy G (be + 1) (p32 ep)) be si (0 : Int) [0] = (progBy (progBy G (be + 1) (p32 ep)) (be + 0) [0], 0) := p2
    unfold laid layHead
    simp only [e1, p1', p2', hs, if_true]
  · rw [d3, d2, d1]
    refine List.ext_getElem? fun i => ?_
    have z1 : be + 8 + (recsOf V (keysOf V)).length ≤ F.dat.length := by omega
    have z2 : (patch F.dat (be + 8) (recsOf V (keysOf V))).length = F.dat.length := patch_length _ _ _ z1
    have z3 : (p32 ep).length = 4 := rfl
    have z4 : (patch (patch F.dat (be + 8) (recsOf V (keysOf V))) (be + 1) (p32 ep)).length = F.dat.length := by rw [patch_length _ _ _ (by omega), z2]
    rw [patch_get _ _ _ (by simp; omega), patch_get _ _ _ (by omega), patch_get _ _ _ z1, patch_get _ _ _ (by rw [headBytes_length]; omega), headBytes_length]
    by_cases c0 : i = be
    · subst c0
      rw [if_pos (by simp), if_pos (by omega)]
      simp [headBytes]
    · rw [if_neg (by simp; omega)]
      by_cases c1 : be + 1 ≤ i ∧ i < be + 5
      · rw [if_pos (by omega), if_pos (by omega)]
        obtain ⟨j, rfl⟩ : ∃ j, i = be + 1 + j := ⟨i - (be + 1), by omega⟩
        have hj : j < 4 := by omega
        rw [show be + 1 + j - (be + 1) = j by omega, show be + 1 + j - be = j + 1 by omega]
        unfold headBytes
        rw [List.append_assoc, List.cons_append, List.getElem?_cons_succ, List.getElem?_append_left (by omega)]
      · rw [if_neg (by omega)]
        by_cases c2 : be + 5 ≤ i ∧ i < be + 8
        · rw [if_neg (by omega), if_pos (by omega), hb i (by omega) (by omega)]
          obtain ⟨j, rfl⟩ : ∃ j, i = be + 5 + j := ⟨i - (be + 5), by omega⟩
          have hj : j = 0 ∨ j = 1 ∨ j = 2 := by omega
          rw [show be + 5 + j - be = j + 5 by omega]
          unfold headBytes p32
          rcases hj with rfl | rfl | rfl <;> rfl
        · by_cases c3 : be + 8 ≤ i ∧ i < be + 8 + (recsOf V (keysOf V)).length
          · rw [if_pos c3, if_pos (by omega)]
            obtain ⟨j, rfl⟩ : ∃ j, i = be + 8 + j := ⟨i - (be + 8), by omega⟩
            rw [show be + 8 + j - (be + 8) = j by omega, show be + 8 + j - be = j + 8 by omega]
            unfold headBytes p32
            rfl
          · rw [if_neg c3, if_neg (by omega)]
def QG (g bb wb pa pb m : Nat) : PQ := ⟨g, bb, wb, fun i => if i = 0 then pa else pb, fun i => 2 * i, fun _ => 2, fun i => 2 * m * i, fun _ => 2 * m⟩
theorem qg_at {w : World} {g bb wb pa pb m b0 s0 b1 s1 : Nat} (hf : FlashAt w g bb wb (fresh 4 m)) (p0 : PartAt w pa g 0 2 b0 s0) (k0 : PartOk (fresh 4 m) 0 2 b0 s0) (p1 : PartAt w pb g 2 2 b1 s1) (k1 : PartOk (fresh 4 m) 2 2 b1 s1)
    (ha : pa ≠ g ∧ pa ≠ bb ∧ pa ≠ wb) (hb : pb ≠ g ∧ pb ≠ bb ∧ pb ≠ wb) : PQAt w (QG g bb wb pa pb m) (fresh 4 m) := by
  have e0 : b0 = 2 * m * 0 := by rw [k0.be]; simp
  have e1 : s0 = 2 * m := k0.si
  have e2 : b1 = 2 * m * 1 := by rw [k1.be]; simp; rfl
  have e3 : s1 = 2 * m := k1.si
  subst e0 e1 e2 e3
  refine ⟨fun i hi => ?_, fun i hi => ?_, hf, (fun e => by cases e), fun i hi => ?_⟩
  · match i, hi with
    | 0, _ => exact p0
    | 1, _ => exact p1
  · match i, hi with
    | 0, _ => exact k0
    | 1, _ => exact k1
  · match i, hi with
    | 0, _ => exact ha
    | 1, _ => exact hb
set_option maxHeartbeats 1600000 in
theorem groups_f (w : World) (b : Int) (m : Nat) (hm : min (max b 16) 4096 = (m : Int)) :
    Calls Try.prog 6 #[.int .i64 b] w fun e w' => ∃ g bb wb pa pb, e = .returned (.tuple #[.pointer (some ⟨g, 0, none⟩), .pointer (some ⟨pa, 0, none⟩), .pointer (some ⟨pb, 0, none⟩)]) ∧ PQAt w' (QG g bb wb pa pb m) (fresh 4 m) ∧ Below w.heap.size w w' ∧ w.heap.size ≤ g ∧ w.heap.size ≤ bb ∧ w.heap.size ≤ wb ∧ w.heap.size ≤ pa ∧ w.heap.size ≤ pb := by
  have kn := new_f w 4 b 4 m (by decide) hm
  clear hm
  go_enter Try.func6, Try.ntmps6
  go_wp2_with fail
  refine kn.mono ?_
  rintro e w1 ⟨g, bb, wb, rfl, hf, b1, hg, hbb, hwb⟩
  have H1 : Aside _ := And.intro hf (And.intro b1 (And.intro hg (And.intro hbb hwb)))
  have k0 := pnew_yes w1 g bb wb (fresh 4 m) 0 2 hf (by omega) (by simp [fresh])
  clear kn hf b1 hg hbb hwb
  go_wp2_with fail
  refine k0.mono ?_
  rintro e w2 ⟨pa, b0, s0, rfl, p0, o0, b2, h2⟩
  have H2 : Aside _ := And.intro p0 (And.intro o0 (And.intro b2 h2))
  have k1 := pnew_yes w2 g bb wb (fresh 4 m) 2 2 (H1.out.1.below b2) (by omega) (by simp [fresh])
  clear k0 p0 o0 b2 h2
  go_wp2_with fail
  refine k1.mono ?_
  rintro e w3 ⟨pb, b1, s1, rfl, p1, o1, b3, h3⟩
  have H3 : Aside _ := And.intro p1 (And.intro o1 (And.intro b3 h3))
  clear k1 p1 o1 b3 h3
  go_wp2
  go_ret3
  obtain ⟨hf, b1, hg, hbb, hwb⟩ := H1.out
  obtain ⟨p0, o0, b2, h2⟩ := H2.out
  obtain ⟨p1, o1, b3, h3⟩ := H3.out
  have hl := hf.lt
  have hs := b2.size
  have hs1 := b1.size
  exact ⟨g, bb, wb, pa, pb, rfl, qg_at ((hf.below b2).below b3) (p0.below b3) o0 p1 o1 (by omega) (by omega), b1.trans ((b2.trans (b3.mono hs)).mono hs1), hg, hbb, hwb, by omega, by omega⟩
theorem below_cells {B : Nat} {a w : World} (h : Below B a w) {b : Nat} (hb : B ≤ b) (vs : List Value) : ∀ o, Below B a (w.setCells b o vs) := by
  induction vs generalizing w with
  | nil => intro o; exact h
  | cons v vs ih => intro o; rw [World.setCells]; exact ih (h.setCell hb v) (o + 1)
theorem LayPost.below {W : World} {jb gi g bb wb fi be si co : Nat} {F : Fl} {pv : Option Nat} {V : Int → Option (List UInt8)} {ep : Int} {e : Ending} {w' : World} (h : LayPost W jb gi g bb wb fi be si co F pv V ep e w') {B : Nat} (hB : B ≤ W.heap.size) (h1 : B ≤ g) (h2 : B ≤ bb) (h3 : B ≤ wb) (h4 : B ≤ jb) : Below B W w' := by
  obtain ⟨_, _, _, _, ec, _, _, _, _, w1, hb, rfl⟩ := h
  have := hb.toBelow hB h1 h2 h3
  split
  · exact below_cells this h4 _ 3
  · exact this
/-- What a group's bytes are, behind its being laid. -/
structure LaidAt (F G : Fl) (be si : Nat) (ep : Int) (V : Int → Option (List UInt8)) : Prop where
  on : On G
  len : G.dat.length = F.dat.length
  out : ∀ i, ¬ (be ≤ i ∧ i < be + si) → G.dat[i]? = F.dat[i]?
  head : ∀ i, i < sizeAll V → G.dat[be + i]? = (headBytes ep V)[i]?
  rest : Blk G (be + sizeAll V) (be + si)
theorem lay_ok {W : World} {J : JP} {F : Fl} {s : JS} {pn : Option Nat} {D : DataW Value} {V : Int → Option (List UInt8)} {gi : Nat} {ep : Int} {e : Ending} {w' : World} (h : JAt W J F s) (hV : Vals W J.lo pn D V) (hon : On F) (hroom : sizeAll V ≤ s.size) (hgi : gi < 2) (h0 : 0 ≤ ep) (h1 : ep < 4294967296)
    (hp : LayPost W J.jb gi J.g J.bb J.wb (J.fi gi) (J.be gi) (J.si gi) (J.co gi) F pn V ep e w') :
    e = .returned (.int .i64 0) ∧ ∃ G, JAt w' J G { s with cnt := gi, ep := ep, en := sizeAll V, pv := pn, D := D, V := V } ∧ LaidAt F G (J.be gi) (J.si gi) ep V := by
  obtain ⟨ec0, G0, F', p', ec, ⟨wi, sn, on, cl, _⟩, hl, he, hf, w1, hb, hw⟩ := hp
  obtain ⟨rfl, on0⟩ := on hon.1 hon.2
  have cl := cl rfl
  have hok := h.ok gi hgi
  have hft := hok.fits h.fl.ok
  have hsi := h.size gi hgi
  have hblk : Blk G0 (J.be gi) (J.be gi + J.si gi) := fun i a b => cl.all i a (by rw [hok.si] at b; exact b)
  obtain ⟨G, e1, o1, d1, s1, w1'⟩ := laid_on (J.be gi) (J.si gi) V ep G0 on0 (by rw [wi.len]; exact hft) (by omega) hblk
  rw [if_pos rfl, e1] at hl
  obtain ⟨rfl, rfl, rfl⟩ : F' = G ∧ p' = sizeAll V ∧ ec = 0 := by
    injection hl with a b
    injection b with b c
    exact ⟨a, b, c⟩
  rw [if_pos rfl] at hw
  subst hw
  refine ⟨he, F', ?_, o1, ?_, fun i hi => ?_, fun i hi => ?_, fun i a b => ?_⟩
  · exact h.laid_ pn D V hV hroom gi hgi ep h0 h1 G0 wi sn (sizeAll V) e1.symm hb hf
  · rw [d1, patch_length _ _ _ (by rw [headBytes_length, wi.len]; omega), wi.len]
  · rw [d1, patch_get _ _ _ (by rw [headBytes_length, wi.len]; omega), headBytes_length, if_neg (by omega)]
    exact wi.dat i hi
  · rw [d1, patch_get _ _ _ (by rw [headBytes_length, wi.len]; omega), headBytes_length, if_pos (by omega)]
    congr 1; omega
  · rw [d1, patch_get _ _ _ (by rw [headBytes_length, wi.len]; omega), headBytes_length, if_neg (by omega)]
    exact hblk i (by omega) b
theorem keysOf_noV : keysOf noV = [] := by decide +kernel
theorem sizeAll_noV : sizeAll noV = 8 := by unfold sizeAll; rw [keysOf_noV]; rfl
theorem sel_fresh (J : JP) (s : JS) (n m : Nat) (h : ∀ i, i < 2 → J.be i + 1 ≤ n * m) (hs : 1 ≤ s.size) : selOf (fresh n m) J s 2 = none := by
  have hg : ∀ i, i < 2 → (grp (fresh n m) J s i).getD 0 0 = 255 := fun i hi => by
    unfold grp piece fresh
    rw [List.getD_eq_getElem?_getD, List.getElem?_take, if_pos (by omega), List.getElem?_drop, List.getElem?_replicate, if_pos (by have := h i hi; omega)]; rfl
  have h0 : selOf (fresh n m) J s 0 = none := rfl
  have h1 : selOf (fresh n m) J s 1 = none := by
    rw [selOf, hg 0 (by omega), if_neg (fun e => by have := e.1; revert this; decide)]
    exact h0
  rw [selOf, hg 1 (by omega), if_neg (fun e => by have := e.1; revert this; decide)]
  exact h1
/-- The state of a journal on an erased flash. -/
def SF (m : Nat) : JS := ⟨2 * m, 0, 1, 8, none, .nil, noV⟩
theorem open_fresh {W : World} {g bb wb pa pb m : Nat} {e : Ending} {w' : World} (hm : 16 ≤ m) (hm2 : m ≤ 4096) (hq : PQAt W (QG g bb wb pa pb m) (fresh 4 m)) (hp : MakePost W (QG g bb wb pa pb m) (fresh 4 m) e w') :
    e = .returned (.tuple #[.pointer (some ⟨W.heap.size, 0, none⟩), .int .i64 0]) ∧ ∃ G, JAt w' ((QG g bb wb pa pb m).at_ W.heap.size) G (SF m) ∧ LaidAt (fresh 4 m) G 0 (2 * m) 1 noV ∧ ∀ B, B ≤ W.heap.size → B ≤ g → B ≤ bb → B ≤ wb → Below B W w' := by
  have hsz : min ((QG g bb wb pa pb m).si 0) ((QG g bb wb pa pb m).si 1) = 2 * m := by show min (2 * m) (2 * m) = _; omega
  unfold MakePost at hp
  rw [if_neg (show ¬ (fresh 4 m).down = true from fun h => Bool.noConfusion h), hsz, if_neg (by omega)] at hp
  obtain ⟨w1, ec, hj, hb, ho, he⟩ := hp
  have hsel : selOf (fresh 4 m) ((QG g bb wb pa pb m).at_ W.heap.size) (S0 (2 * m)) 2 = none := sel_fresh _ _ 4 m (fun i hi => by
    show 2 * m * i + 1 ≤ 4 * m
    match i, hi with
    | 0, _ => omega
    | 1, _ => omega) (by show 1 ≤ 2 * m; omega)
  unfold OpenPost at ho
  rw [hsel] at ho
  obtain ⟨wr, hjr, hor, hl⟩ := ho
  have hlo := hjr.low
  obtain ⟨he2, G, hG, hLa⟩ := lay_ok hjr (nil_vals wr _) ⟨rfl, rfl⟩ (by rw [sizeAll_noV]; show 8 ≤ 2 * m; omega) (by omega) (by decide) (by decide) hl
  have hec : ec = 0 := by injection he2 with x; injection x
  subst hec
  rw [if_pos rfl] at he
  rw [sizeAll_noV] at hG
  refine ⟨he, G, hG, hLa, fun B h1 h2 h3 h4 => ?_⟩
  have hs1 := hb.size
  have hs2 := hor.size
  exact (hb.mono h1).trans ((hor.toBelow (by omega) h1).trans (hl.below (by omega) h2 h3 h4 h1))
/-- Blank behind the last record. -/
def Tail (F : Fl) (J : JP) (s : JS) : Prop := Blk F (J.be s.cnt + s.en) (J.be s.cnt + s.size)
/-- What a step that went well leaves: the record behind the last one, or all moved. -/
def Stepped (w' : World) (J : JP) (F : Fl) (s : JS) (V : Int → Option (List UInt8)) (rec : List UInt8) : Prop :=
  (s.en + rec.length + 1 ≤ s.size ∧ ∃ G pn D, JAt w' J G { s with en := s.en + rec.length + 1, pv := pn, D := D, V := V } ∧ On G ∧ G.dat = patch F.dat (J.be s.cnt + s.en) (rec ++ [0])) ∨
  (s.size < s.en + rec.length + 1 ∧ s.ep ≠ 4294967295 ∧ ∃ G pn D, JAt w' J G { s with cnt := 1 - s.cnt, ep := s.ep + 1, en := sizeAll V, pv := pn, D := D, V := V } ∧ LaidAt F G (J.be (1 - s.cnt)) (J.si (1 - s.cnt)) (s.ep + 1) V)
theorem turn_on {W W1 : World} {J : JP} {F : Fl} {s : JS} {b : Nat} {D : DataW Value} {V : Int → Option (List UInt8)} {rec : List UInt8} {e : Ending} {w' : World} (h : JAt W J F s) (hb : Below W.heap.size W W1) (hV : Vals W1 J.lo (some b) D V) (hon : On F) (ht : Tail F J s)
    (hp : TurnPost W1 J F s (some b) V rec e w') : (∀ B, B ≤ W.heap.size → B ≤ J.g → B ≤ J.bb → B ≤ J.wb → B ≤ J.jb → Below B W w') ∧
      ((s.size < sizeAll V ∧ e = .returned (.int .i64 6) ∧ Below W.heap.size W w') ∨ (sizeAll V ≤ s.size ∧ s.size < s.en + rec.length + 1 ∧ s.ep = 4294967295 ∧ e = .returned (.int .i64 3) ∧ Below W.heap.size W w') ∨ (sizeAll V ≤ s.size ∧ e = .returned (.int .i64 0) ∧ Stepped w' J F s V rec)) := by
  have h1 := h.below hb
  have hs := hb.size
  unfold TurnPost at hp
  split at hp
  · rename_i hf
    obtain ⟨he, hb2⟩ := hp
    have hb3 := hb.trans (hb2.mono hs)
    exact ⟨fun B a _ _ _ _ => hb3.mono a, .inl ⟨hf, he, hb3⟩⟩
  · rename_i hf
    split at hp
    · rename_i hr
      obtain ⟨w1, hb1, hp⟩ := hp
      have hb2 := hb.trans (hb1.mono hs)
      rcases hp with ⟨hep, he, rfl⟩ | ⟨hep, hl⟩
      · exact ⟨fun B a _ _ _ _ => hb2.mono a, .inr (.inl ⟨by omega, by omega, hep, he, hb2⟩)⟩
      · have hbd : Below W1.heap.size W1 w1.drew := hb1.trans ((below_drew w1).mono hb1.size)
        have hj := h1.below hbd
        have hv := hV.below hbd
        have he4 := h.ep
        obtain ⟨he, G, hG, hL⟩ := lay_ok hj hv hon (by omega) (by omega) (by omega) (by omega) hl
        refine ⟨fun B a b c d f => (hb.trans (hbd.mono hs)).mono a |>.trans (hl.below (Nat.le_trans a (Nat.le_trans hs hbd.size)) b c d f), .inr (.inr ⟨by omega, he, .inr ⟨by omega, hep, G, _, _, hG, hL⟩⟩)⟩
    · rename_i hr
      obtain ⟨F', en', ec, w1, hj, he, hf', hbt, hw⟩ := hp
      have hft := (h.ok s.cnt h.cnt).fits h.fl.ok
      have hsi := h.size s.cnt h.cnt
      obtain ⟨G, e1, o1, d1, s1, w1'⟩ := jwrote_on hon (J.be s.cnt) (J.si s.cnt) s.en rec hft (by omega) (blk_less ht (Nat.le_refl _) (by omega))
      rw [e1] at hj
      obtain ⟨rfl, rfl, rfl⟩ : G = F' ∧ ((s.en + rec.length + 1 : Nat) : Int) = en' ∧ (0 : Int) = ec := by
        injection hj with a b
        injection b with b c
        exact ⟨a, b, c⟩
      rw [if_pos rfl] at hw
      subst hw
      refine ⟨fun B a b c d f => (hb.mono a).trans (below_cells (hbt.toBelow (Nat.le_trans a hs) b c d) f _ 5), .inr (.inr ⟨by omega, he, .inl ⟨by omega, G, _, _, h1.wrote (some _) D V hV rec (by omega) _ e1 hbt hf', o1, d1⟩⟩)⟩
theorem Stepped.tail {w' : World} {J : JP} {F : Fl} {s : JS} {V : Int → Option (List UInt8)} {rec : List UInt8} {W : World} (h : Stepped w' J F s V rec) (hj : JAt W J F s) (ht : Tail F J s) :
    ∃ G s', JAt w' J G s' ∧ On G ∧ Tail G J s' ∧ s'.size = s.size ∧ s'.V = V ∧ G.dat.length = F.dat.length ∧ ((s.en + rec.length + 1 ≤ s.size ∧ s'.cnt = s.cnt ∧ s'.ep = s.ep ∧ s'.en = s.en + rec.length + 1 ∧ G.dat = patch F.dat (J.be s.cnt + s.en) (rec ++ [0])) ∨ (s.size < s.en + rec.length + 1 ∧ s'.cnt = 1 - s.cnt ∧ s'.ep = s.ep + 1 ∧ s'.en = sizeAll V ∧ LaidAt F G (J.be (1 - s.cnt)) (J.si (1 - s.cnt)) (s.ep + 1) V)) := by
  rcases h with ⟨h1, G, pn, D, hG, ho, hd⟩ | ⟨h1, h2, G, pn, D, hG, hL⟩
  · have hft := (hj.ok s.cnt hj.cnt).fits hj.fl.ok
    have hsi := hj.size s.cnt hj.cnt
    refine ⟨G, _, hG, ho, ?_, rfl, rfl, by rw [hd, patch_length _ _ _ (by simp; omega)], .inl ⟨h1, rfl, rfl, rfl, hd⟩⟩
    exact blk_patch hd (by simp; omega) (blk_less ht (by show _ ≤ J.be s.cnt + (s.en + rec.length + 1); omega) (Nat.le_refl _)) (by simp; omega)
  · have hsi := hj.size (1 - s.cnt) (by omega)
    exact ⟨G, _, hG, hL.on, blk_less hL.rest (Nat.le_refl _) (by show J.be (1 - s.cnt) + s.size ≤ _; omega), rfl, rfl, hL.len, .inr ⟨h1, rfl, rfl, rfl, hL⟩⟩
theorem seals_len (a b : UInt8) (l : List UInt8) : (seals (a :: b :: l)).length = l.length + 6 := by unfold seals; simp [p32]
/-- What comes of Put. -/
def PutOn (W : World) (J : JP) (F : Fl) (s : JS) (key : Int) (l : List UInt8) (e : Ending) (w' : World) : Prop :=
  (∃ ec : Int, e = .returned (.int .i64 ec) ∧ ec ≠ 0 ∧ Below W.heap.size W w' ∧ ((key < 0 ∨ 32 ≤ key) ∧ ec = 1 ∨ (0 ≤ key ∧ key < 32) ∧ 250 < l.length ∧ ec = 2 ∨ (0 ≤ key ∧ key < 32) ∧ l.length ≤ 250 ∧ s.V key ≠ some l ∧ s.size < sizeAll (putV (dropV s.V key) key l) ∧ ec = 6 ∨ (0 ≤ key ∧ key < 32) ∧ l.length ≤ 250 ∧ s.V key ≠ some l ∧ sizeAll (putV (dropV s.V key) key l) ≤ s.size ∧ s.size < s.en + l.length + 7 ∧ s.ep = 4294967295 ∧ ec = 3)) ∨
  ((0 ≤ key ∧ key < 32) ∧ l.length ≤ 250 ∧ e = .returned (.int .i64 0) ∧ s.V key = some l ∧ Below W.heap.size W w') ∨
  ((0 ≤ key ∧ key < 32) ∧ l.length ≤ 250 ∧ e = .returned (.int .i64 0) ∧ s.V key ≠ some l ∧ sizeAll (putV (dropV s.V key) key l) ≤ s.size ∧ Stepped w' J F s (putV (dropV s.V key) key l) (seals (UInt8.ofNat key.toNat :: UInt8.ofNat l.length :: l)))
theorem put_on {W : World} {J : JP} {F : Fl} {s : JS} {key : Int} {l : List UInt8} {e : Ending} {w' : World} (h : JAt W J F s) (hon : On F) (ht : Tail F J s) (hp : PutPost W J F s key l e w') :
    (∀ B, B ≤ W.heap.size → B ≤ J.g → B ≤ J.bb → B ≤ J.wb → B ≤ J.jb → Below B W w') ∧ PutOn W J F s key l e w' := by
  have hjk : jck F key = if key < 0 ∨ 32 ≤ key then 1 else 0 := by unfold jck; rw [if_neg (by rw [hon.2]; decide)]
  unfold PutPost at hp
  split at hp
  · rename_i hk
    rw [hjk] at hk hp
    by_cases hr : key < 0 ∨ 32 ≤ key
    · rw [if_pos hr] at hp
      exact ⟨fun B a _ _ _ _ => hp.2.mono a, .inl ⟨1, hp.1, by decide, hp.2, .inl ⟨hr, rfl⟩⟩⟩
    · rw [if_neg hr] at hk; exact absurd rfl hk
  · rename_i hk
    have hr : 0 ≤ key ∧ key < 32 := by
      rw [hjk] at hk
      by_cases hr : key < 0 ∨ 32 ≤ key
      · rw [if_pos hr] at hk; exact absurd (by decide) hk
      · omega
    split at hp
    · rename_i hl
      exact ⟨fun B a _ _ _ _ => hp.2.mono a, .inl ⟨2, hp.1, by decide, hp.2, .inr (.inl ⟨hr, hl, rfl⟩)⟩⟩
    · rename_i hl
      split at hp
      · rename_i hv
        exact ⟨fun B a _ _ _ _ => hp.2.mono a, .inr (.inl ⟨hr, by omega, hp.1, hv, hp.2⟩)⟩
      · rename_i hv
        obtain ⟨w1, b, D', hb1, hV, hT⟩ := hp
        obtain ⟨hB, hT⟩ := turn_on h hb1 hV hon ht hT
        refine ⟨hB, ?_⟩
        rw [seals_len] at hT
        rcases hT with ⟨a1, a2, a3⟩ | ⟨a1, a2, a3, a4, a5⟩ | ⟨a1, a2, a3⟩
        · exact .inl ⟨6, a2, by decide, a3, .inr (.inr (.inl ⟨hr, by omega, hv, a1, rfl⟩))⟩
        · exact .inl ⟨3, a4, by decide, a5, .inr (.inr (.inr ⟨hr, by omega, hv, a1, by omega, a3, rfl⟩))⟩
        · exact .inr (.inr ⟨hr, by omega, a2, hv, a1, a3⟩)
end Go.Proofs.Ytpdlipkmojhnnaa
