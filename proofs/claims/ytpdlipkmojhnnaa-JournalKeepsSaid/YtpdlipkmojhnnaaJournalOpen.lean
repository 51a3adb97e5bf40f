/-
  open: the group that counts is found, its records are taken up, it is mended.
-/
import Derived.Test.YtpdlipkmojhnnaaJournalTake
namespace Go.Proofs.Ytpdlipkmojhnnaa
open Go.RowKit Go.Maps Go.Shelf
set_option maxRecDepth 100000
set_option linter.unusedVariables false
set_option maxRecDepth 100000
/-- The journal's cells from 3 on written anew, and new blocks: nothing else turned. -/
theorem JAt.only {W w1 : World} {J : JP} {F : Fl} {s s' : JS} (h : JAt W J F s) (ho : Only W.heap.size J.jb W w1) (hc : ∀ j, j < 3 → w1.cell? ⟨J.jb, j, none⟩ = W.cell? ⟨J.jb, j, none⟩)
    (c3 : w1.cell? ⟨J.jb, 3, none⟩ = some (.int .i64 (s'.cnt : Int))) (c4 : w1.cell? ⟨J.jb, 4, none⟩ = some (.int .u32 s'.ep)) (c5 : w1.cell? ⟨J.jb, 5, none⟩ = some (.int .i64 (s'.en : Int))) (c6 : w1.cell? ⟨J.jb, 6, none⟩ = some (.map s'.pv)) (frz : w1.there J.jb 0 7)
    (hsz : s'.size = s.size) (hv : Vals w1 J.lo s'.pv s'.D s'.V) (hcnt : s'.cnt < 2) (hep : 0 ≤ s'.ep ∧ s'.ep < 4294967296) (hen : s'.en ≤ s'.size) : JAt w1 J F s' :=
  ⟨fun i hi => (hc i (by omega)).trans (h.c0 i hi), (hc 2 (by omega)).trans (hsz ▸ h.c2), c3, c4, c5, c6, frz, fun i hi => (h.part i hi).keep (ho.block _ (h.part i hi).lt (h.apart i hi)) ho.size, h.ok,
    h.fl.keep (fun k hk => ho.block k (by have := h.fl.lt; rcases hk with rfl | rfl | rfl <;> omega) (by have := h.joff; rcases hk with rfl | rfl | rfl <;> omega)) ho.size, h.sane, h.off, h.joff, h.low, h.jlow, hv, hcnt, hep, fun i hi => hsz ▸ h.size i hi, hen, Nat.le_trans h.top ho.size⟩
/-- The bytes of a group. -/
def grp (F : Fl) (J : JP) (s : JS) (i : Nat) : List UInt8 := piece F (J.be i + 0) s.size
def epOf (b : List UInt8) : Int := (g32 (b.drop 1)).1
/-- Which group counts of those that have been looked at, and its epoch. -/
def selOf (F : Fl) (J : JP) (s : JS) : Nat → Option (Nat × Int)
  | 0 => none
  | k + 1 => if (grp F J s k).getD 0 0 = 0 ∧ (∀ x, selOf F J s k = some x → x.2 < epOf (grp F J s k)) then some (k, epOf (grp F J s k)) else selOf F J s k
theorem g32_lt (l : List UInt8) : 0 ≤ (g32 l).1 ∧ (g32 l).1 < 4294967296 := by
  match l with
  | [] => exact ⟨by decide, by decide⟩
  | [_] => exact ⟨by show (0 : Int) ≤ 0; omega, by show (0 : Int) < _; omega⟩
  | [_, _] => exact ⟨by show (0 : Int) ≤ 0; omega, by show (0 : Int) < _; omega⟩
  | [_, _, _] => exact ⟨by show (0 : Int) ≤ 0; omega, by show (0 : Int) < _; omega⟩
  | a :: b :: c :: d :: r =>
    have ha := a.toNat_lt
    have hb := b.toNat_lt
    have hc := c.toNat_lt
    have hd := d.toNat_lt
    show 0 ≤ (a.toNat : Int) + b.toNat * 256 + c.toNat * 65536 + d.toNat * 16777216 ∧ (a.toNat : Int) + b.toNat * 256 + c.toNat * 65536 + d.toNat * 16777216 < 4294967296
    omega
theorem takeR_le (l : List UInt8) : ∀ (f : Nat) (V : Int → Option (List UInt8)) (p : Nat), p ≤ l.length → (takeR l f V p).2.1 ≤ l.length
  | 0, V, p, h => h
  | f + 1, V, p, h => by
    rw [takeR]
    split
    · exact h
    · split
      · exact h
      · refine takeR_le l f _ _ ?_
        have := recLen_le (l.drop p)
        rw [List.length_drop] at this
        omega
/-- The journal's cells while its groups are looked at. -/
structure SelW (W wr : World) (J : JP) (s : JS) (o : Option (Nat × Int)) : Prop where
  only : Only W.heap.size J.jb W wr
  rest : ∀ j, j < 7 → j ≠ 3 → j ≠ 4 → wr.cell? ⟨J.jb, j, none⟩ = W.cell? ⟨J.jb, j, none⟩
  frz : wr.there J.jb 0 7
  c3 : wr.cell? ⟨J.jb, 3, none⟩ = some (.int .i64 (((o.map (·.1)).getD s.cnt : Nat) : Int))
  c4 : wr.cell? ⟨J.jb, 4, none⟩ = some (.int .u32 ((o.map (·.2)).getD s.ep))
def HeldV (lo : Nat) (w : World) (F : Fl) (J : JP) (s : JS) (o : Option (Nat × Int)) (v : Value) : Prop :=
  match o with
  | none => v = .slice none 0 0
  | some x => ∃ I, lo ≤ I ∧ v = .slice (some ⟨I, 0, Option.none⟩) s.size s.size ∧ Bs w w.heap.size (some ⟨I, 0, Option.none⟩) s.size (grp F J s x.1)
section
variable {W wr w' : World} {J : JP} {F : Fl} {s : JS} {o : Option (Nat × Int)} {v : Value}
theorem SelW.below (h : SelW W wr J s o) (hb : Below wr.heap.size wr w') (hl : J.jb < W.heap.size) : SelW W w' J s o := by
  have hl' := Nat.lt_of_lt_of_le hl h.only.size
  exact ⟨h.only.below (hb.mono h.only.size), fun j h1 h2 h3 => (hb.cell (p := ⟨J.jb, j, none⟩) hl').trans (h.rest j h1 h2 h3), there_below h.frz hb hl', (hb.cell (p := ⟨J.jb, 3, none⟩) hl').trans h.c3, (hb.cell (p := ⟨J.jb, 4, none⟩) hl').trans h.c4⟩
theorem SelW.set (h : SelW W wr J s o) (k : Nat) (ep : Int) : SelW W ((wr.setCell ⟨J.jb, 3, none⟩ (.int .i64 (k : Int))).setCell ⟨J.jb, 4, none⟩ (.int .u32 ep)) J s (some (k, ep)) := by
  refine ⟨(h.only.setCell 3 _).setCell 4 _, fun j h1 h2 h3 => ?_, World.there_setCells (World.there_setCells h.frz J.jb 3 [.int .i64 (k : Int)]) J.jb 4 [.int .u32 ep], ?_, ?_⟩
  · rw [World.cell?_setCell_other _ _ _ _ (fun e => by injection e; omega), World.cell?_setCell_other _ _ _ _ (fun e => by injection e; omega)]
    exact h.rest j h1 h2 h3
  · rw [World.cell?_setCell_other _ _ _ _ (fun e => by injection e; omega)]
    exact World.cell?_setCell_same _ _ _ h.c3
  · refine World.cell?_setCell_same _ _ _ (show _ = some (Value.int .u32 ((o.map (·.2)).getD s.ep)) from ?_)
    rw [World.cell?_setCell_other _ _ _ _ (fun e => by injection e; omega)]
    exact h.c4
theorem HeldV.below {lo : Nat} (h : HeldV lo wr F J s o v) (hb : Below wr.heap.size wr w') : HeldV lo w' F J s o v := by
  cases o with
  | none => exact h
  | some x =>
    obtain ⟨I, h1, h2, h3⟩ := h
    exact ⟨I, h1, h2, (h3.below hb).more hb.size⟩
theorem bs_set {lo I n : Nat} {l : List UInt8} (h : Bs wr wr.heap.size (some ⟨I, 0, none⟩) n l) (hI : lo ≤ I) (hj : J.jb < lo) (a b : Nat) (u v : Value) : Bs ((wr.setCell ⟨J.jb, a, none⟩ u).setCell ⟨J.jb, b, none⟩ v) ((wr.setCell ⟨J.jb, a, none⟩ u).setCell ⟨J.jb, b, none⟩ v).heap.size (some ⟨I, 0, none⟩) n l := by
  have h1 := h.keepOff (g := J.jb) (w' := (wr.setCell ⟨J.jb, a, none⟩ u).setCell ⟨J.jb, b, none⟩ v) (fun x e => by cases e; show I ≠ J.jb; omega) (fun p _ hp => by
    rw [World.cell?_setCell_other _ _ _ _ (fun e => hp (by rw [← e])), World.cell?_setCell_other _ _ _ _ (fun e => hp (by rw [← e]))])
  exact h1.more (by simp [World.setCell])
end
theorem SelW.jat {W wr : World} {J : JP} {F : Fl} {s : JS} {o : Option (Nat × Int)} (h : SelW W wr J s o) (hj : JAt W J F s) (ho : ∀ x, o = some x → x.1 < 2 ∧ 0 ≤ x.2 ∧ x.2 < 4294967296) : JAt wr J F { s with cnt := (o.map (·.1)).getD s.cnt, ep := (o.map (·.2)).getD s.ep } := by
  have hjl : J.jb < W.heap.size := World.block_lt_of_cell? _ _ hj.c2
  have hlo := hj.jlow
  refine hj.only h.only (fun j hj' => h.rest j (by omega) (by omega) (by omega)) h.c3 h.c4 ((h.rest 5 (by omega) (by omega) (by omega)).trans hj.c5) ((h.rest 6 (by omega) (by omega) (by omega)).trans hj.c6) h.frz rfl (hj.vals.same h.only.size fun b h1 h2 => h.only.block b h2 (by omega)) ?_ ?_ hj.en
  · cases o with
    | none => exact hj.cnt
    | some x => exact (ho x rfl).1
  · cases o with
    | none => exact hj.ep
    | some x => exact (ho x rfl).2
theorem selOf_lt {F : Fl} {J : JP} {s : JS} : ∀ (k : Nat) (x : Nat × Int), selOf F J s k = some x → x.1 < k ∧ 0 ≤ x.2 ∧ x.2 < 4294967296
  | 0, x, h => by cases h
  | k + 1, x, h => by
    rw [selOf] at h
    split at h
    · cases h
      exact ⟨Nat.lt_succ_self k, (g32_lt _).1, (g32_lt _).2⟩
    · obtain ⟨h1, h2⟩ := selOf_lt k x h
      exact ⟨Nat.lt_succ_of_lt h1, h2⟩
/-- What open leaves. -/
def OpenPost (W : World) (J : JP) (F : Fl) (s : JS) (e : Ending) (w' : World) : Prop :=
  match selOf F J s 2 with
  | none => ∃ wr, JAt wr J F s ∧ Only W.heap.size J.jb W wr ∧ LayPost wr J.jb 0 J.g J.bb J.wb (J.fi 0) (J.be 0) (J.si 0) (J.co 0) F Option.none noV 1 e w'
  | some x => if (takeOf (grp F J s x.1)).2.2 ≠ 0 then e = .returned (.int .i64 (takeOf (grp F J s x.1)).2.2) ∧ Only W.heap.size J.jb W w'
    else ∃ mb D wr, JAt wr J F { s with cnt := x.1, ep := x.2, en := (takeOf (grp F J s x.1)).2.1, pv := some mb, D := D, V := (takeOf (grp F J s x.1)).1 } ∧ Only W.heap.size J.jb W wr ∧
      (if endOf (piece F (J.be x.1 + (takeOf (grp F J s x.1)).2.1) (s.size - (takeOf (grp F J s x.1)).2.1)) (s.size - (takeOf (grp F J s x.1)).2.1) = 0 then e = .returned (.int .i64 0) ∧ w' = wr
       else (x.2 = 4294967295 ∧ e = .returned (.int .i64 3) ∧ w' = wr) ∨ (x.2 ≠ 4294967295 ∧ LayPost wr.drew J.jb (1 - x.1) J.g J.bb J.wb (J.fi (1 - x.1)) (J.be (1 - x.1)) (J.si (1 - x.1)) (J.co (1 - x.1)) F (some mb) (takeOf (grp F J s x.1)).1 (x.2 + 1) e w'))
set_option maxHeartbeats 4000000 in
theorem open_f (W : World) (J : JP) (F : Fl) (s : JS) (h : JAt W J F s) (hpv : s.pv = none) (hVn : s.V = noV) (hd : F.down = false) (h32 : 32 ≤ s.size) (hn : (s.size : Int) ≤ 65536) :
    Calls Try.prog 25 #[.pointer (some ⟨J.jb, 0, none⟩)] W (OpenPost W J F s) := by
  have hr : W.rangeAt J.jb 0 [.pointer (some ⟨J.pp 0, 0, none⟩), .pointer (some ⟨J.pp 1, 0, none⟩)] := by
    intro j v hj
    match j, hj with
    | 0, hj => obtain rfl := Option.some.inj hj; exact h.c0 0 (by omega)
    | 1, hj => obtain rfl := Option.some.inj hj; exact h.c0 1 (by omega)
  have i0 := idx0 (J.pp 0) (J.pp 1)
  have i1 := idx1 (J.pp 0) (J.pp 1)
  have HJ : Aside _ := h
  have hjl : J.jb < W.heap.size := World.block_lt_of_cell? _ _ h.c2
  have c2 := h.c2
  have hS0 : Aside (SelW W W J s none) := ⟨Only.refl _ _ _, fun j _ _ _ => rfl, h.frz, h.c3, h.c4⟩
  have hlo := h.jlow
  have htop := h.top
  obtain ⟨sz, hsz⟩ : ∃ sz, s.size = sz := ⟨_, rfl⟩
  have HZ := Lib.hid hsz
  rw [hsz] at c2 h32 hn
  clear h hsz
  go_enter Try.func25, Try.ntmps25
  go_wp2_with (refine wpList_load_mid rfl 56 (.tmp 15) rfl J.jb 0 rfl [.pointer (some ⟨J.pp 0, 0, none⟩), .pointer (some ⟨J.pp 1, 0, none⟩)] _ hr Try.underlying56 rfl size89 ?_)
  go_loopw [3, 17] (fun held i wr => ∃ k : Nat, k ≤ 2 ∧ i = .int .i64 k ∧ ∃ o, Hid (selOf F J s k = o) ∧ SelW W wr J s o ∧ HeldV J.lo wr F J s o held) (fun _ i _ => 2 - (intOf i).toNat)
  case atStart => exact ⟨0, by omega, rfl, none, rfl, hS0.out, rfl⟩
  case round =>
    obtain ⟨k, hk, rfl, o, ho, hS, hheld⟩ := hrel
    clear hr
    match k, hk with
    | 0, _ =>
      rw [show (((0 : Nat) : Int)) = 0 from rfl]
      have hSW : Aside _ := hS
      have c2w := (hS.rest 2 (by omega) (by omega) (by omega)).trans c2
      have hpt : PartAt wr (J.pp 0) J.g (J.fi 0) (J.co 0) (J.be 0) (J.si 0) := (HJ.out.part 0 (by omega)).keep (hS.only.block _ (HJ.out.part 0 (by omega)).lt (HJ.out.apart 0 (by omega))) hS.only.size
      have hfl : FlashAt wr J.g J.bb J.wb F := HJ.out.fl.keep (fun k hk => hS.only.block k (by have := HJ.out.fl.lt; rcases hk with rfl | rfl | rfl <;> omega) (by have := HJ.out.joff; rcases hk with rfl | rfl | rfl <;> omega)) hS.only.size
      have kp := pread_yes wr (J.pp 0) J.g J.bb J.wb (J.fi 0) (J.co 0) (J.be 0) (J.si 0) F 0 sz hpt hfl ((HJ.out.ok 0 (by omega)).fits HJ.out.fl.ok) (by unfold pck; rw [if_neg (by rw [hd]; decide), if_neg (by have h1 := HJ.out.size 0 (by omega); have h2 := HZ.out; omega)])
      have HHe : Aside _ := hheld
      clear hpt hfl hS hheld
      go_wp2_with fail
      refine kp.mono ?_
      rintro e w1 ⟨v1, rfl, ⟨I, hI, hI2, rfl, hbs⟩, b1⟩
      have hlb : Hid (grp F J s 0 = piece F (J.be 0 + 0) sz) := by show grp F J s 0 = _; unfold grp; rw [HZ.out]
      generalize piece F (J.be 0 + 0) sz = lb at *
      have hlen := hbs.len
      obtain ⟨u, hu⟩ := byte_get (l := lb) (k := 0) (by omega)
      have hg0 : lb.getD 0 0 = u := by rw [List.getD_eq_getElem?_getD, hu]; rfl
      have kg := get32_any (some ⟨I, 0 + 1, none⟩) (sz - 1) (sz - 1) (lb.drop 1) w1 _ (hbs.drop_ 1)
      obtain ⟨ep1, hep1⟩ : ∃ ep1, (g32 (lb.drop 1)).1 = ep1 := ⟨_, rfl⟩
      rw [hep1] at kg
      have HL : Aside _ := And.intro hlb.out (And.intro hep1 (And.intro hg0 (And.intro hu (And.intro hbs b1))))
      have SW1 : Aside _ := hSW.out.below b1 hjl
      have g1 : (1 : Int) ≤ sz := by omega
      have g2 : ¬ (sz : Int) = 1 := by omega
      have g3 : ¬ sz = 1 := by omega
      clear kp hlb hep1 hg0 hu hbs b1 hlen c2w
      go_wp2_with fail
      refine kg.mono ?_
      rintro e w2 ⟨rfl, m, hw2⟩
      have b2 : Below w1.heap.size w1 w2 := hw2 ▸ drewN_below w1 _ m
      obtain ⟨hlb, hep1, hg0, hu, hbs, b1⟩ := HL.out
      have SW2 : Aside _ := SW1.out.below b2 hjl
      have hbs2 : Aside (Bs w2 w2.heap.size (some ⟨I, 0, none⟩) sz lb) := (hbs.below b2).more b2.size
      have x0 := hbs2.out.at1 0 u hu
      rw [Nat.add_zero] at x0
      have x4 := SW2.out.c4
      have x3 := SW2.out.c3
      have z3 : w2.frozen? ⟨J.jb, 3, none⟩ = false := by have := (SW2.out.frz 3 (by omega)).2; rwa [Nat.zero_add] at this
      have z4 : w2.frozen? ⟨J.jb, 4, none⟩ = false := by have := (SW2.out.frz 4 (by omega)).2; rwa [Nat.zero_add] at this
      have HB2 : Aside (Below wr.heap.size wr w2) := b1.trans (b2.mono b1.size)
      have HI : Aside (J.lo ≤ I) := by have := hSW.out.only.size; show J.lo ≤ I; omega
      clear kg hw2 hlb hep1 hg0 hu hbs b1 b2 hI hI2
      have hsel : Aside (selOf F J s 1 = if u = 0 ∧ (∀ x, o = some x → x.2 < ep1) then some (0, ep1) else o) := by
        show selOf F J s 1 = _
        rw [selOf, HL.out.1, HL.out.2.2.1, ho.out]
        unfold epOf
        rw [HL.out.2.1]
      have hsome : ∀ a : Addr, ∀ w : World, (binOp .eql 35 (.slice (some a) sz sz) (.slice none 0 0)).run Try.prog w = .ok (.bool false) w := fun a w => Lib.run_eql_slice_nil w 35 5 _ sz sz 0 0 Try.underlying35
      have hnone : ∀ w : World, (binOp .eql 35 (.slice none 0 0) (.slice none 0 0)).run Try.prog w = .ok (.bool true) w := fun w => Lib.run_eql_slice_nil w 35 5 none 0 0 0 0 Try.underlying35
      obtain rfl : o = none := ho.out.symm
      have hh := HHe.out
      obtain rfl : u3 = .slice none 0 0 := hh
      by_cases hu0 : u = 0
      · have hz : ((u.toNat : Int) == 0) = true := by rw [hu0]; rfl
        have hs1 := hsel.out
        rw [if_pos ⟨hu0, fun x e => by cases e⟩] at hs1
        have HS1 := Lib.hid hs1
        clear hs1 hu0
        generalize (u.toNat : Int) = z0 at *
        go_wp2
        go_roundw
        case rel =>
          refine ⟨1, by omega, by rfl, _, HS1.out, SW2.out.set 0 ep1, I, HI.out, by rw [HZ.out], ?_⟩
          have := bs_set hbs2.out HI.out hlo 3 4 (.int .i64 ((0 : Nat) : Int)) (.int .u32 ep1)
          rw [HZ.out, HL.out.1]
          exact this
        case measure => simp [intOf]
      · have hz : ((u.toNat : Int) == 0) = false := by
          rw [beq_eq_false_iff_ne]
          intro e
          exact hu0 (UInt8.toNat_inj.1 (by have : (0 : UInt8).toNat = 0 := rfl; omega))
        have hs1 := hsel.out
        rw [if_neg (fun h => hu0 h.1)] at hs1
        have HS1 := Lib.hid hs1
        clear hs1 hu0
        generalize (u.toNat : Int) = z0 at *
        go_wp2
        go_roundw
        case rel => exact ⟨1, by omega, by rfl, _, HS1.out, SW2.out, rfl⟩
        case measure => simp [intOf]

    | 1, _ =>
      rw [show (((1 : Nat) : Int)) = 1 from rfl]
      have hSW : Aside _ := hS
      have c2w := (hS.rest 2 (by omega) (by omega) (by omega)).trans c2
      have hpt : PartAt wr (J.pp 1) J.g (J.fi 1) (J.co 1) (J.be 1) (J.si 1) := (HJ.out.part 1 (by omega)).keep (hS.only.block _ (HJ.out.part 1 (by omega)).lt (HJ.out.apart 1 (by omega))) hS.only.size
      have hfl : FlashAt wr J.g J.bb J.wb F := HJ.out.fl.keep (fun k hk => hS.only.block k (by have := HJ.out.fl.lt; rcases hk with rfl | rfl | rfl <;> omega) (by have := HJ.out.joff; rcases hk with rfl | rfl | rfl <;> omega)) hS.only.size
      have kp := pread_yes wr (J.pp 1) J.g J.bb J.wb (J.fi 1) (J.co 1) (J.be 1) (J.si 1) F 0 sz hpt hfl ((HJ.out.ok 1 (by omega)).fits HJ.out.fl.ok) (by unfold pck; rw [if_neg (by rw [hd]; decide), if_neg (by have h1 := HJ.out.size 1 (by omega); have h2 := HZ.out; omega)])
      have HHe : Aside _ := hheld
      clear hpt hfl hS hheld
      go_wp2_with fail
      refine kp.mono ?_
      rintro e w1 ⟨v1, rfl, ⟨I, hI, hI2, rfl, hbs⟩, b1⟩
      have hlb : Hid (grp F J s 1 = piece F (J.be 1 + 0) sz) := by show grp F J s 1 = _; unfold grp; rw [HZ.out]
      generalize piece F (J.be 1 + 0) sz = lb at *
      have hlen := hbs.len
      obtain ⟨u, hu⟩ := byte_get (l := lb) (k := 0) (by omega)
      have hg0 : lb.getD 0 0 = u := by rw [List.getD_eq_getElem?_getD, hu]; rfl
      have kg := get32_any (some ⟨I, 0 + 1, none⟩) (sz - 1) (sz - 1) (lb.drop 1) w1 _ (hbs.drop_ 1)
      obtain ⟨ep1, hep1⟩ : ∃ ep1, (g32 (lb.drop 1)).1 = ep1 := ⟨_, rfl⟩
      rw [hep1] at kg
      have HL : Aside _ := And.intro hlb.out (And.intro hep1 (And.intro hg0 (And.intro hu (And.intro hbs b1))))
      have SW1 : Aside _ := hSW.out.below b1 hjl
      have g1 : (1 : Int) ≤ sz := by omega
      have g2 : ¬ (sz : Int) = 1 := by omega
      have g3 : ¬ sz = 1 := by omega
      clear kp hlb hep1 hg0 hu hbs b1 hlen c2w
      go_wp2_with fail
      refine kg.mono ?_
      rintro e w2 ⟨rfl, m, hw2⟩
      have b2 : Below w1.heap.size w1 w2 := hw2 ▸ drewN_below w1 _ m
      obtain ⟨hlb, hep1, hg0, hu, hbs, b1⟩ := HL.out
      have SW2 : Aside _ := SW1.out.below b2 hjl
      have hbs2 : Aside (Bs w2 w2.heap.size (some ⟨I, 0, none⟩) sz lb) := (hbs.below b2).more b2.size
      have x0 := hbs2.out.at1 0 u hu
      rw [Nat.add_zero] at x0
      have x4 := SW2.out.c4
      have x3 := SW2.out.c3
      have z3 : w2.frozen? ⟨J.jb, 3, none⟩ = false := by have := (SW2.out.frz 3 (by omega)).2; rwa [Nat.zero_add] at this
      have z4 : w2.frozen? ⟨J.jb, 4, none⟩ = false := by have := (SW2.out.frz 4 (by omega)).2; rwa [Nat.zero_add] at this
      have HB2 : Aside (Below wr.heap.size wr w2) := b1.trans (b2.mono b1.size)
      have HI : Aside (J.lo ≤ I) := by have := hSW.out.only.size; show J.lo ≤ I; omega
      clear kg hw2 hlb hep1 hg0 hu hbs b1 b2 hI hI2
      have hsel : Aside (selOf F J s 2 = if u = 0 ∧ (∀ x, o = some x → x.2 < ep1) then some (1, ep1) else o) := by
        show selOf F J s 2 = _
        rw [selOf, HL.out.1, HL.out.2.2.1, ho.out]
        unfold epOf
        rw [HL.out.2.1]
      have hsome : ∀ a : Addr, ∀ w : World, (binOp .eql 35 (.slice (some a) sz sz) (.slice none 0 0)).run Try.prog w = .ok (.bool false) w := fun a w => Lib.run_eql_slice_nil w 35 5 _ sz sz 0 0 Try.underlying35
      have hnone : ∀ w : World, (binOp .eql 35 (.slice none 0 0) (.slice none 0 0)).run Try.prog w = .ok (.bool true) w := fun w => Lib.run_eql_slice_nil w 35 5 none 0 0 0 0 Try.underlying35
      cases o with
      | none =>
        have hh := HHe.out
        obtain rfl : u3 = .slice none 0 0 := hh
        by_cases hu0 : u = 0
        · have hz : ((u.toNat : Int) == 0) = true := by rw [hu0]; rfl
          have hs1 := hsel.out
          rw [if_pos ⟨hu0, fun x e => by cases e⟩] at hs1
          have HS1 := Lib.hid hs1
          clear hs1 hu0
          generalize (u.toNat : Int) = z0 at *
          go_wp2
          go_roundw
          case rel =>
            refine ⟨2, by omega, by rfl, _, HS1.out, SW2.out.set 1 ep1, I, HI.out, by rw [HZ.out], ?_⟩
            have := bs_set hbs2.out HI.out hlo 3 4 (.int .i64 ((1 : Nat) : Int)) (.int .u32 ep1)
            rw [HZ.out, HL.out.1]
            exact this
          case measure => simp [intOf]
        · have hz : ((u.toNat : Int) == 0) = false := by
            rw [beq_eq_false_iff_ne]
            intro e
            exact hu0 (UInt8.toNat_inj.1 (by have : (0 : UInt8).toNat = 0 := rfl; omega))
          have hs1 := hsel.out
          rw [if_neg (fun h => hu0 h.1)] at hs1
          have HS1 := Lib.hid hs1
          clear hs1 hu0
          generalize (u.toNat : Int) = z0 at *
          go_wp2
          go_roundw
          case rel => exact ⟨2, by omega, by rfl, _, HS1.out, SW2.out, rfl⟩
          case measure => simp [intOf]
      | some x =>
        obtain ⟨c0, e0⟩ := x
        obtain ⟨I0, hI0, hv0, hb0⟩ := HHe.out
        rw [HZ.out] at hv0
        subst hv0
        have HH0 : Aside (HeldV J.lo w2 F J s (some (c0, e0)) (.slice (some ⟨I0, 0, none⟩) sz sz)) := (show HeldV J.lo wr F J s (some (c0, e0)) (.slice (some ⟨I0, 0, none⟩) sz sz) from ⟨I0, hI0, by rw [HZ.out], hb0⟩).below HB2.out
        have x4' : w2.cell? ⟨J.jb, 4, none⟩ = some (.int .u32 e0) := x4
        clear x4 hI0 hb0 HHe
        by_cases hu0 : u = 0
        · have hz : ((u.toNat : Int) == 0) = true := by rw [hu0]; rfl
          by_cases hlt : e0 < ep1
          · have hs1 := hsel.out
            rw [if_pos ⟨hu0, fun x e => by cases e; exact hlt⟩] at hs1
            have HS1 := Lib.hid hs1
            clear hs1 hu0
            generalize (u.toNat : Int) = z0 at *
            go_wp2
            go_roundw
            case rel =>
              refine ⟨2, by omega, by rfl, _, HS1.out, SW2.out.set 1 ep1, I, HI.out, by rw [HZ.out], ?_⟩
              have := bs_set hbs2.out HI.out hlo 3 4 (.int .i64 ((1 : Nat) : Int)) (.int .u32 ep1)
              rw [HZ.out, HL.out.1]
              exact this
            case measure => simp [intOf]
          · have hs1 := hsel.out
            rw [if_neg (fun h => hlt (h.2 _ rfl))] at hs1
            have HS1 := Lib.hid hs1
            clear hs1 hu0
            generalize (u.toNat : Int) = z0 at *
            go_wp2
            go_roundw
            case rel => exact ⟨2, by omega, by rfl, _, HS1.out, SW2.out, HH0.out⟩
            case measure => simp [intOf]
        · have hz : ((u.toNat : Int) == 0) = false := by
            rw [beq_eq_false_iff_ne]
            intro e
            exact hu0 (UInt8.toNat_inj.1 (by have : (0 : UInt8).toNat = 0 := rfl; omega))
          have hs1 := hsel.out
          rw [if_neg (fun h => hu0 h.1)] at hs1
          have HS1 := Lib.hid hs1
          clear hs1 hu0
          generalize (u.toNat : Int) = z0 at *
          go_wp2
          go_roundw
          case rel => exact ⟨2, by omega, by rfl, _, HS1.out, SW2.out, HH0.out⟩
          case measure => simp [intOf]

    | 2, _ =>
      rw [show (((2 : Nat) : Int)) = 2 from rfl]
      have hnone : ∀ w : World, (binOp .eql 35 (.slice none 0 0) (.slice none 0 0)).run Try.prog w = .ok (.bool true) w := fun w => Lib.run_eql_slice_nil w 35 5 none 0 0 0 0 Try.underlying35
      have HS : Aside _ := hS
      cases o with
      | none =>
        obtain rfl : u3 = .slice none 0 0 := hheld
        have hj : JAt wr J F s := hS.jat HJ.out (fun x e => by cases e)
        have hv := hj.vals
        rw [hpv, hVn] at hv
        have kl := lay_f wr J.jb J.lo 0 (J.pp 0) J.g J.bb J.wb (J.fi 0) (J.co 0) (J.be 0) (J.si 0) F none s.D noV 1 (by omega) (hj.c0 0 (by omega)) hj.frz (hj.part 0 (by omega)) (hj.ok 0 (by omega)) hj.fl hj.sane (hj.off 0 (by omega)) hj.joff hj.low hv (by decide) (by decide)
        have HJ2 : Aside _ := hj
        clear hv hj hS
        go_wp2_with fail
        refine kl.mono ?_
        intro e w' hp
        have hp' := hp
        obtain ⟨_, _, _, _, ec, _, _, he', _⟩ := hp'
        subst he'
        have HP : Aside _ := hp
        clear hp kl
        go_wp2
        go_ret
        unfold OpenPost
        rw [ho.out]
        exact ⟨wr, HJ2.out, HS.out.only, HP.out⟩
      | some x =>
        obtain ⟨c, ep⟩ := x
        obtain ⟨I, hI, hv, hb⟩ := hheld
        rw [HZ.out] at hv hb
        subst hv
        have hlt := selOf_lt 2 (c, ep) ho.out
        have hj := hS.jat HJ.out (fun x e => by cases e; exact hlt)
        have hsome : ∀ w : World, (binOp .eql 35 (.slice (some ⟨I, 0, none⟩) sz sz) (.slice none 0 0)).run Try.prog w = .ok (.bool false) w := fun w => Lib.run_eql_slice_nil w 35 5 _ sz sz 0 0 Try.underlying35
        have kt := take_f wr J.jb J.lo I 0 sz sz (grp F J s c) ⟨_, hj.c5⟩ ⟨_, hj.c6⟩ hj.frz hj.top hlo hI hb (Nat.le_refl _) h32 hn
        have hgl : (grp F J s c).length = sz := hb.len
        have hle := takeR_le (grp F J s c) (grp F J s c).length noV 8 (by omega)
        have HJ2 : Aside _ := hj
        have HO : Aside _ := And.intro ho.out (And.intro hle hgl)
        obtain ⟨T, hT⟩ : ∃ T, takeOf (grp F J s c) = T := ⟨_, rfl⟩
        have hle2 : T.2.1 ≤ sz := by rw [← hT, ← hgl]; exact hle
        rw [hT] at kt
        obtain ⟨V, p, ec⟩ := T
        simp only at kt hle2
        have HT : Aside _ := hT
        clear hj hS hb hI hle hgl hT
        go_wp2_with fail
        refine kt.mono ?_
        rintro e w3 ⟨rfl, mb, D, m, hTS⟩
        have HTS : Aside _ := hTS
        have honly : Aside (Only W.heap.size J.jb W w3) := by
          have o1 := HS.out.only
          have o2 := hTS.only
          exact ⟨o2.os.trans o1.os, o2.tape.trans o1.tape, o2.output.trans o1.output, Nat.le_trans o1.size o2.size, fun k h1 h2 => (o2.block k (Nat.lt_of_lt_of_le h1 o1.size) h2).trans (o1.block k h1 h2)⟩
        clear kt hTS
        by_cases he : ec = 0
        · subst he
          have hTS := HTS.out
          have hj2 := HJ2.out
          have hcl : c < 2 := (selOf_lt 2 (c, ep) HO.out.1).1
          have hj3 : JAt w3 J F { s with cnt := c, ep := ep, en := p, pv := some mb, D := D, V := V } :=
            hj2.only hTS.only (fun j hj => hTS.cells j (by omega)) ((hTS.cells 3 (by omega)).trans hj2.c3) ((hTS.cells 4 (by omega)).trans hj2.c4) hTS.c5 hTS.c6 hTS.frz rfl hTS.vals hcl hj2.ep (by show p ≤ s.size; rw [HZ.out]; exact hle2)
          have hsz2 := hj3.size c hcl
          have hsz2' : sz ≤ J.si c := by have := HZ.out; exact this ▸ hsz2
          have hwr : Aside (∀ w, Below w3.heap.size w3 w → JAt w J F { s with cnt := c, ep := ep, en := p, pv := some mb, D := D, V := V }) := fun w hb => hj3.below hb
          have kr := room_f w3.drew J F _ (hj3.below (below_drew w3))
          have er : ((sz : Int) - (p : Int)) = ((sz - p : Nat) : Int) := by omega
          simp only [HZ.out] at kr
          rw [er] at kr
          have kb : Aside (∀ w, Below w3.heap.size w3 w → Calls Try.prog 43 #[.pointer (some ⟨J.pp c, 0, none⟩), .int .i64 (p : Int), .int .i64 ((sz - p : Nat) : Int)] w fun e w' => e = .returned (.tuple #[.bool ((endOf (piece F (J.be c + p) (sz - p)) (sz - p) : Int) == 0), .int .i64 0]) ∧ Below w.heap.size w w') := fun w hb =>
            pblank_yes w (J.pp c) J.g J.bb J.wb (J.fi c) (J.co c) (J.be c) (J.si c) F p (sz - p) ((hwr.out w hb).part c hcl) (hwr.out w hb).fl (((hwr.out w hb).ok c hcl).fits (hwr.out w hb).fl.ok) (by unfold pck; rw [if_neg (by rw [hd]; decide), if_neg (by omega)])
          have km : Aside (∀ w, Below w3.heap.size w3 w → Calls Try.prog 44 #[.pointer (some ⟨J.jb, 0, none⟩), .map (some mb)] w fun e w' => (ep = 4294967295 ∧ e = .returned (.int .i64 3) ∧ w' = w) ∨
              (ep ≠ 4294967295 ∧ LayPost w.drew J.jb (1 - c) J.g J.bb J.wb (J.fi (1 - c)) (J.be (1 - c)) (J.si (1 - c)) (J.co (1 - c)) F (some mb) V (ep + 1) e w')) := fun w hb => move_f w J F _ (hwr.out w hb) (some mb) D V (hwr.out w hb).vals
          have hjl3 := Nat.lt_of_lt_of_le hjl honly.out.size
          have hcells : Aside (∀ w : World, w.heap[J.jb]? = w3.heap[J.jb]? → w.cell? ⟨J.jb, c, none⟩ = some (.pointer (some ⟨J.pp c, 0, none⟩)) ∧ w.cell? ⟨J.jb, 3, none⟩ = some (.int .i64 (c : Int)) ∧ w.cell? ⟨J.jb, 5, none⟩ = some (.int .i64 (p : Int)) ∧ w.cell? ⟨J.jb, 6, none⟩ = some (.map (some mb))) := fun w e => by
            have hc : ∀ j, w.cell? ⟨J.jb, j, none⟩ = w3.cell? ⟨J.jb, j, none⟩ := fun j => World.cell?_of_block (w := w3) e
            exact ⟨(hc _).trans (hj3.c0 _ hcl), (hc _).trans hj3.c3, (hc _).trans hj3.c5, (hc _).trans hj3.c6⟩
          obtain ⟨d0, d3, d5, d6⟩ := hcells.out w3 rfl
          have HJ3 : Aside _ := hj3
          have hd2 := below_drew w3
          obtain ⟨eb, heb⟩ : ∃ eb, endOf (piece F (J.be c + p) (sz - p)) (sz - p) = eb := ⟨_, rfl⟩
          rw [heb] at kb
          have HEB : Aside _ := heb
          clear hTS hj2 hj3 hsz2 hsz2' er hle2 heb
          go_wp2_with fail
          go_region_held (fun w => w.cell? ⟨J.jb, c, none⟩ = some (.pointer (some ⟨J.pp c, 0, none⟩)) ∧ w.cell? ⟨J.jb, 3, none⟩ = some (.int .i64 (c : Int)) ∧ w.cell? ⟨J.jb, 5, none⟩ = some (.int .i64 (p : Int)))
            (first | assumption | exact ⟨d0, d3, d5⟩)
            ((first
              | (go_at_call 20; refine kr.mono ?_; rintro e w4 ⟨rfl, b4⟩; have B4 : Aside (Below w3.heap.size w3 w4) := hd2.trans b4; have e4 := hcells.out w4 (B4.out.block _ hjl3); have s4 := And.intro e4.1 (And.intro e4.2.1 e4.2.2.1))
              | (go_at_call 43; refine (kb.out w4 B4.out).mono ?_; rintro e w5 ⟨rfl, b5⟩; have B5 : Aside (Below w3.heap.size w3 w5) := B4.out.trans (b5.mono B4.out.size); have e5 := hcells.out w5 (B5.out.block _ hjl3); have s5 := And.intro e5.1 (And.intro e5.2.1 e5.2.2.1))))
          all_goals
            have hon5 : Aside (Only W.heap.size J.jb W w5) := honly.out.below (B5.out.mono honly.out.size)
            have hnz : ¬ (((V, p, (0 : Int)) : (Int → Option (List UInt8)) × Nat × Int).2.2 ≠ 0) := fun h => h rfl
            have HNZ := Lib.hid hnz
            have f6 := e5.2.2.2
            clear hnz d0 d3 d5 d6 e4 s4 s5 e5 kr b4 b5 hd2
            by_cases hb0 : eb = 0
            · have qb : ((eb : Int) == 0) = true := by rw [hb0]; rfl
              have HB0 : Aside _ := hb0
              clear hb0
              go_wp2
              go_ret
              unfold OpenPost
              rw [HO.out.1]
              show (if (takeOf (grp F J s c)).2.2 ≠ 0 then _ else _)
              rw [HT.out, if_neg HNZ.out]
              refine ⟨mb, D, w5, hwr.out w5 B5.out, hon5.out, ?_⟩
              show (if endOf (piece F (J.be c + p) (s.size - p)) (s.size - p) = 0 then _ else _)
              rw [HZ.out, HEB.out, if_pos HB0.out]
              exact ⟨rfl, rfl⟩
            · have qb : ((eb : Int) == 0) = false := by rw [beq_eq_false_iff_ne]; omega
              have HB0 : Aside _ := hb0
              clear hb0
              go_wp2_with fail
              refine (km.out w5 B5.out).mono ?_
              intro e w' hp
              rcases hp with ⟨h1, rfl, hw⟩ | ⟨h1, hp⟩
              · have HW : Aside _ := And.intro h1 hw
                clear h1 hw
                go_wp2
                go_ret
                unfold OpenPost
                rw [HO.out.1]
                show (if (takeOf (grp F J s c)).2.2 ≠ 0 then _ else _)
                rw [HT.out, if_neg HNZ.out]
                refine ⟨mb, D, w5, hwr.out w5 B5.out, hon5.out, ?_⟩
                show (if endOf (piece F (J.be c + p) (s.size - p)) (s.size - p) = 0 then _ else _)
                rw [HZ.out, HEB.out, if_neg HB0.out]
                exact .inl ⟨HW.out.1, rfl, HW.out.2⟩
              · have hp' := hp
                obtain ⟨_, _, _, _, ec, _, _, he', _⟩ := hp'
                subst he'
                have HP : Aside _ := And.intro h1 hp
                clear h1 hp
                go_wp2
                go_ret
                unfold OpenPost
                rw [HO.out.1]
                show (if (takeOf (grp F J s c)).2.2 ≠ 0 then _ else _)
                rw [HT.out, if_neg HNZ.out]
                refine ⟨mb, D, w5, hwr.out w5 B5.out, hon5.out, ?_⟩
                show (if endOf (piece F (J.be c + p) (s.size - p)) (s.size - p) = 0 then _ else _)
                rw [HZ.out, HEB.out, if_neg HB0.out]
                exact .inr ⟨HP.out.1, HP.out.2⟩
        · have q0 : (ec != 0) = true := bne_iff_ne.2 he
          have HE : Aside _ := he
          clear he
          go_wp2
          go_ret
          unfold OpenPost
          rw [HO.out.1]
          show (if (takeOf (grp F J s c)).2.2 ≠ 0 then _ else _)
          rw [HT.out, if_pos HE.out]
          exact ⟨rfl, honly.out⟩
end Go.Proofs.Ytpdlipkmojhnnaa
