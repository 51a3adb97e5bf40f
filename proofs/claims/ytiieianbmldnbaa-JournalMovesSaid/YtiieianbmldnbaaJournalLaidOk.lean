/-
  A group laid while the power is there: it goes well. A journal opened on an erased flash.
-/
import Derived.Test.YtiieianbmldnbaaJournalGroups
namespace Go.Proofs.Ytiieianbmldnbaa
open Go.RowKit Go.Maps Go.Shelf
set_option maxRecDepth 100000
set_option linter.unusedVariables false
set_option maxRecDepth 100000
theorem below_cells {B : Nat} {a w : World} (h : Below B a w) {b : Nat} (hb : B ≤ b) (vs : List Value) : ∀ o, Below B a (w.setCells b o vs) := by
  induction vs generalizing w with
  | nil => intro o; exact h
  | cons v vs ih => intro o; rw [World.setCells]; exact ih (h.setCell hb v) (o + 1)
theorem LayPost.below {W : World} {jb gi g bb wb fi be si co : Nat} {F : Fl} {pv : Option Nat} {V : Int → Option (List UInt8)} {ep : Int} {e : Ending} {w' : World} (h : LayPost W jb gi g bb wb fi be si co F pv V ep e w') {B : Nat} (hB : B ≤ W.heap.size) (h1 : B ≤ g) (h2 : B ≤ bb) (h3 : B ≤ wb) (h4 : B ≤ jb) : Below B W w' := by
  obtain ⟨_, _, _, _, ec, _, _, _, _, w1, hb, rfl⟩ := h
  have := hb.toBelow hB h1 h2 h3
  split
  · exact below_cells this h4 _ 3
  · exact this
/-- What a group's bytes are, behind its being laid. -/
structure LaidAt (F G : Fl) (be si : Nat) (ep : Int) (V : Int → Option (List UInt8)) : Prop where
  on : On G
  len : G.dat.length = F.dat.length
  out : ∀ i, ¬ (be ≤ i ∧ i < be + si) → G.dat[i]? = F.dat[i]?
  head : ∀ i, i < sizeAll V → G.dat[be + i]? = (headBytes ep V)[i]?
  rest : Blk G (be + sizeAll V) (be + si)
theorem lay_ok {W : World} {J : JP} {F : Fl} {s : JS} {pn : Option Nat} {D : DataW Value} {V : Int → Option (List UInt8)} {gi : Nat} {ep : Int} {e : Ending} {w' : World} (h : JAt W J F s) (hV : Vals W J.lo pn D V) (hon : On F) (hroom : sizeAll V ≤ s.size) (hgi : gi < 2) (h0 : 0 ≤ ep) (h1 : ep < 4294967296)
    (hp : LayPost W J.jb gi J.g J.bb J.wb (J.fi gi) (J.be gi) (J.si gi) (J.co gi) F pn V ep e w') :
    e = .returned (.int .i64 0) ∧ ∃ G, JAt w' J G { s with cnt := gi, ep := ep, en := sizeAll V, pv := pn, D := D, V := V } ∧ LaidAt F G (J.be gi) (J.si gi) ep V := by
  obtain ⟨ec0, G0, F', p', ec, ⟨wi, sn, on, cl⟩, hl, he, hf, w1, hb, hw⟩ := hp
  obtain ⟨rfl, on0⟩ := on hon.1 hon.2
  have cl := cl rfl
  have hok := h.ok gi hgi
  have hft := hok.fits h.fl.ok
  have hsi := h.size gi hgi
  have hblk : Blk G0 (J.be gi) (J.be gi + J.si gi) := fun i a b => cl.all i a (by rw [hok.si] at b; exact b)
  obtain ⟨G, e1, o1, d1, s1, w1'⟩ := laid_on (J.be gi) (J.si gi) V ep G0 on0 (by rw [wi.len]; exact hft) (by omega) hblk
  rw [if_pos rfl, e1] at hl
  obtain ⟨rfl, rfl, rfl⟩ : F' = G ∧ p' = sizeAll V ∧ ec = 0 := by
    injection hl with a b
    injection b with b c
    exact ⟨a, b, c⟩
  rw [if_pos rfl] at hw
  subst hw
  refine ⟨he, F', ?_, o1, ?_, fun i hi => ?_, fun i hi => ?_, fun i a b => ?_⟩
  · exact h.laid_ pn D V hV hroom gi hgi ep h0 h1 G0 wi sn (sizeAll V) e1.symm hb hf
  · rw [d1, patch_length _ _ _ (by rw [headBytes_length, wi.len]; omega), wi.len]
  · rw [d1, patch_get _ _ _ (by rw [headBytes_length, wi.len]; omega), headBytes_length, if_neg (by omega)]
    exact wi.dat i hi
  · rw [d1, patch_get _ _ _ (by rw [headBytes_length, wi.len]; omega), headBytes_length, if_pos (by omega)]
    congr 1; omega
  · rw [d1, patch_get _ _ _ (by rw [headBytes_length, wi.len]; omega), headBytes_length, if_neg (by omega)]
    exact hblk i (by omega) b
theorem keysOf_noV : keysOf noV = [] := by decide +kernel
theorem sizeAll_noV : sizeAll noV = 8 := by unfold sizeAll; rw [keysOf_noV]; rfl
theorem sel_fresh (J : JP) (s : JS) (n m : Nat) (h : ∀ i, i < 2 → J.be i + 1 ≤ n * m) (hs : 1 ≤ s.size) : selOf (fresh n m) J s 2 = none := by
  have hg : ∀ i, i < 2 → (grp (fresh n m) J s i).getD 0 0 = 255 := fun i hi => by
    unfold grp piece fresh
    rw [List.getD_eq_getElem?_getD, List.getElem?_take, if_pos (by omega), List.getElem?_drop, List.getElem?_replicate, if_pos (by have := h i hi; omega)]; rfl
  have h0 : selOf (fresh n m) J s 0 = none := rfl
  have h1 : selOf (fresh n m) J s 1 = none := by
    rw [selOf, hg 0 (by omega), if_neg (fun e => by have := e.1; revert this; decide)]
    exact h0
  rw [selOf, hg 1 (by omega), if_neg (fun e => by have := e.1; revert this; decide)]
  exact h1
/-- The state of a journal on an erased flash. -/
def SF (m : Nat) : JS := ⟨2 * m, 0, 1, 8, none, .nil, noV⟩
theorem open_fresh {W : World} {g bb wb pa pb m : Nat} {e : Ending} {w' : World} (hm : 16 ≤ m) (hm2 : m ≤ 4096) (hq : PQAt W (QG g bb wb pa pb m) (fresh 4 m)) (hp : MakePost W (QG g bb wb pa pb m) (fresh 4 m) e w') :
    e = .returned (.tuple #[.pointer (some ⟨W.heap.size, 0, none⟩), .int .i64 0]) ∧ ∃ G, JAt w' ((QG g bb wb pa pb m).at_ W.heap.size) G (SF m) ∧ LaidAt (fresh 4 m) G 0 (2 * m) 1 noV ∧ ∀ B, B ≤ W.heap.size → B ≤ g → B ≤ bb → B ≤ wb → Below B W w' := by
  have hsz : min ((QG g bb wb pa pb m).si 0) ((QG g bb wb pa pb m).si 1) = 2 * m := by show min (2 * m) (2 * m) = _; omega
  unfold MakePost at hp
  rw [if_neg (show ¬ (fresh 4 m).down = true from fun h => Bool.noConfusion h), hsz, if_neg (by omega)] at hp
  obtain ⟨w1, ec, hj, hb, ho, he⟩ := hp
  have hsel : selOf (fresh 4 m) ((QG g bb wb pa pb m).at_ W.heap.size) (S0 (2 * m)) 2 = none := sel_fresh _ _ 4 m (fun i hi => by
    show 2 * m * i + 1 ≤ 4 * m
    match i, hi with
    | 0, _ => omega
    | 1, _ => omega) (by show 1 ≤ 2 * m; omega)
  unfold OpenPost at ho
  rw [hsel] at ho
  obtain ⟨wr, hjr, hor, hl⟩ := ho
  have hlo := hjr.low
  obtain ⟨he2, G, hG, hLa⟩ := lay_ok hjr (nil_vals wr _) ⟨rfl, rfl⟩ (by rw [sizeAll_noV]; show 8 ≤ 2 * m; omega) (by omega) (by decide) (by decide) hl
  have hec : ec = 0 := by injection he2 with x; injection x
  subst hec
  rw [if_pos rfl] at he
  rw [sizeAll_noV] at hG
  refine ⟨he, G, hG, hLa, fun B h1 h2 h3 h4 => ?_⟩
  have hs1 := hb.size
  have hs2 := hor.size
  exact (hb.mono h1).trans ((hor.toBelow (by omega) h1).trans (hl.below (by omega) h2 h3 h4 h1))
end Go.Proofs.Ytiieianbmldnbaa
