/-
  take: the records of a group's bytes.
-/
import Derived.Test.YtpdlipkmojhnnaaJournalNext
import Derived.Test.YtpdlipkmojhnnaaJournalFirst
import Derived.Test.YtpdlipkmojhnnaaCrcRun
namespace Go.Proofs.Ytpdlipkmojhnnaa
open Go.RowKit Go.Maps Go.Shelf
set_option maxRecDepth 100000
set_option linter.unusedVariables false
set_option maxRecDepth 100000
/-- The values behind the record with which bytes begin. -/
def stepV (V : Int → Option (List UInt8)) (r : List UInt8) : Int → Option (List UInt8) :=
  if (r.getD 1 0).toNat = 254 then dropV V ((r.getD 0 0).toNat : Int) else putV V ((r.getD 0 0).toNat : Int) ((r.drop 2).take (recLen r - 7))
/-- The values of the records from p on, where the last one ends, the error. -/
def takeR (l : List UInt8) : Nat → (Int → Option (List UInt8)) → Nat → (Int → Option (List UInt8)) × Nat × Int
  | 0, V, p => (V, p, 0)
  | f + 1, V, p => if recLen (l.drop p) = 0 then (V, p, 0) else if opens ((l.drop p).take (recLen (l.drop p) - 1)) = none then (V, p, 40) else takeR l f (stepV V (l.drop p)) (p + recLen (l.drop p))
def noV : Int → Option (List UInt8) := fun _ => none
/-- .. of a group's bytes. -/
def takeOf (l : List UInt8) : (Int → Option (List UInt8)) × Nat × Int := takeR l l.length noV 8
theorem takeR_end {l : List UInt8} {V : Int → Option (List UInt8)} {p : Nat} (f : Nat) (h : recLen (l.drop p) = 0) : takeR l f V p = (V, p, 0) := by
  cases f with
  | zero => rfl
  | succ f => rw [takeR, if_pos h]
theorem takeR_bad {l : List UInt8} {V : Int → Option (List UInt8)} {p f : Nat} (hf : f ≠ 0) (h : recLen (l.drop p) ≠ 0) (ho : opens ((l.drop p).take (recLen (l.drop p) - 1)) = none) : takeR l f V p = (V, p, 40) := by
  cases f with
  | zero => exact absurd rfl hf
  | succ f => rw [takeR, if_neg h, if_pos ho]
theorem takeR_step {l : List UInt8} {V : Int → Option (List UInt8)} {p f : Nat} (h : recLen (l.drop p) ≠ 0) (ho : opens ((l.drop p).take (recLen (l.drop p) - 1)) ≠ none) : takeR l (f + 1) V p = takeR l f (stepV V (l.drop p)) (p + recLen (l.drop p)) := by
  rw [takeR, if_neg h, if_neg ho]
theorem recLen_few {b : List UInt8} (h : recLen b ≠ 0) : 7 ≤ recLen b ∧ recLen b ≤ 257 ∧ (b.getD 0 0).toNat < 32 ∧ recLen b = 7 + valLen (b.getD 1 0) := by
  unfold recLen at *
  split at h
  · exact absurd rfl h
  · rename_i h1
    split at h
    · exact absurd rfl h
    · rename_i h2
      split at h
      · exact absurd rfl h
      · rename_i h3
        rw [if_neg h1, if_neg h2, if_neg h3]
        refine ⟨by omega, by omega, by omega, rfl⟩
/-- What a delete leaves. -/
theorem Vals.del {w w' : World} {lo b n n0 : Nat} {D : DataW Value} {V : Int → Option (List UInt8)} (h : Vals w lo (some b) D V) (h0 : w.ownsMap Try.prog 3 hdr b n0 D) (key : Int)
    (ho : w'.ownsMap Try.prog 3 hdr b n (D.del (.int .i64 key))) (hg : w.grownBy w' (some b)) : Vals w' lo (some b) (D.del (.int .i64 key)) (dropV V key) := by
  refine ⟨.inr ⟨b, n, rfl, ho⟩, fun k => ?_, fun k l hl => ?_, h.low, fun k hk => ?_, fun k l hl => ?_⟩
  · unfold dropV
    by_cases e : k = key
    · subst e; rw [has_del_same, if_pos rfl]; rfl
    · rw [has_del_other (int_ne e), if_neg e, h.has]
  · unfold dropV at hl
    by_cases e : k = key
    · rw [if_pos e] at hl; cases hl
    · rw [if_neg e] at hl
      rw [atKey_del_other (int_ne e)]
      obtain ⟨A', c', h1, h2, h3, h4⟩ := h.at_ k l hl
      exact ⟨A', c', h1, bs_past h0 h2 hg, h3, h4⟩
  · unfold dropV at hk
    by_cases e : k = key
    · rw [if_pos e] at hk; cases hk
    · rw [if_neg e] at hk; exact h.keys k hk
  · unfold dropV at hl
    by_cases e : k = key
    · rw [if_pos e] at hl; cases hl
    · rw [if_neg e] at hl; exact h.short k l hl
/-- The world while records are taken up: the journal's end and values, all else as it was. -/
structure TakeS (w wr : World) (jb lo p mb : Nat) (D : DataW Value) (V : Int → Option (List UInt8)) (n : Nat) : Prop where
  only : Only w.heap.size jb w wr
  cells : ∀ j, j < 5 → wr.cell? ⟨jb, j, none⟩ = w.cell? ⟨jb, j, none⟩
  c5 : wr.cell? ⟨jb, 5, none⟩ = some (.int .i64 (p : Int))
  c6 : wr.cell? ⟨jb, 6, none⟩ = some (.map (some mb))
  frz : wr.there jb 0 7
  new : w.heap.size ≤ mb
  own : wr.ownsMap Try.prog 3 hdr mb n D
  vals : Vals wr lo (some mb) D V
theorem own_same {w w' : World} {b n : Nat} {D : DataW Value} (h : w.ownsMap Try.prog 3 hdr b n D) (hk : w'.heap[b]? = w.heap[b]?) : w'.ownsMap Try.prog 3 hdr b n D := by
  obtain ⟨es, clock, h1, h2⟩ := h
  exact ⟨es, clock, hk.trans h1, h2⟩
section
variable {w wr w' : World} {jb lo p mb n n' : Nat} {D D' : DataW Value} {V V' : Int → Option (List UInt8)}
theorem TakeS.below (h : TakeS w wr jb lo p mb D V n) (hb : Below wr.heap.size wr w') (hjl : jb < w.heap.size) : TakeS w w' jb lo p mb D V n := by
  have hl : jb < wr.heap.size := Nat.lt_of_lt_of_le hjl h.only.size
  exact ⟨h.only.below (hb.mono h.only.size), fun j hj => (hb.cell (p := ⟨jb, j, none⟩) hl).trans (h.cells j hj), (hb.cell (p := ⟨jb, 5, none⟩) hl).trans h.c5, (hb.cell (p := ⟨jb, 6, none⟩) hl).trans h.c6, there_below h.frz hb hl, h.new, own_same h.own (hb.block _ h.own.lt), h.vals.below hb⟩
theorem TakeS.turn (h : TakeS w wr jb lo p mb D V n) (hg : wr.grownBy w' (some mb)) (ho : w'.ownsMap Try.prog 3 hdr mb n' D') (hv : Vals w' lo (some mb) D' V') (hjl : jb < w.heap.size) : TakeS w w' jb lo p mb D' V' n' := by
  have hb : Below w.heap.size wr w' := (Below.refl w.heap.size wr).grown hg h.only.size (fun g e => by cases e; exact h.new)
  exact ⟨h.only.below hb, fun j hj => (hb.cell (p := ⟨jb, j, none⟩) hjl).trans (h.cells j hj), (hb.cell (p := ⟨jb, 5, none⟩) hjl).trans h.c5, (hb.cell (p := ⟨jb, 6, none⟩) hjl).trans h.c6, there_below h.frz hb hjl, h.new, ho, hv⟩
theorem TakeS.end_ (h : TakeS w wr jb lo p mb D V n) (hjl : jb < lo) (hlo : lo ≤ w.heap.size) (q : Nat) : TakeS w (wr.setCell ⟨jb, 5, none⟩ (.int .i64 (q : Int))) jb lo q mb D V n := by
  have hn := h.new
  refine ⟨h.only.setCell 5 _, fun j hj => ?_, World.cell?_setCell_same _ _ _ h.c5, ?_, World.there_setCells h.frz jb 5 [.int .i64 (q : Int)], h.new, own_same h.own (Below.heap_setCell wr ⟨jb, 5, none⟩ _ mb (show mb ≠ jb by omega)), h.vals.same (by simp [World.setCell]) fun b h1 _ => Below.heap_setCell wr ⟨jb, 5, none⟩ _ b (show b ≠ jb by omega)⟩
  · rw [World.cell?_setCell_other _ _ _ _ (fun e => by injection e; omega)]; exact h.cells j hj
  · rw [World.cell?_setCell_other _ _ _ _ (fun e => by injection e; omega)]; exact h.c6
theorem TakeS.bs {l : List UInt8} {bk off m : Nat} (h : TakeS w wr jb lo p mb D V n) (hb : Bs w w.heap.size (some ⟨bk, off, none⟩) m l) (hne : bk ≠ jb) : Bs wr w.heap.size (some ⟨bk, off, none⟩) m l :=
  hb.keepOff (g := jb) (fun a e => by cases e; exact hne) fun _ hp hq => h.only.cell hp hq
end
theorem noV_vals {w : World} {lo b n : Nat} (ho : w.ownsMap Try.prog 3 hdr b n (.map [])) (hlo : lo ≤ b) : Vals w lo (some b) (.map []) noV :=
  ⟨.inr ⟨b, n, rfl, ho⟩, fun k => by simp [Maps.has, noV], fun k l h => (by cases h), fun b' e => (by cases e; exact hlo), fun k h => (by cases h), fun k l h => (by cases h)⟩
theorem take_start (w : World) (jb lo : Nat) (hc5 : ∃ v, w.cell? ⟨jb, 5, none⟩ = some v) (hc6 : ∃ v, w.cell? ⟨jb, 6, none⟩ = some v) (hfz : w.there jb 0 7) (hlo : lo ≤ w.heap.size) (hjl : jb < lo) :
    TakeS w (((w.setCell ⟨jb, 6, none⟩ (.map (some w.heap.size))).setCell ⟨jb, 5, none⟩ (.int .i64 8)).alloc (.map #[] 0)) jb lo 8 w.heap.size (.map []) noV 0 := by
  have hj : jb < w.heap.size := by omega
  obtain ⟨v5, h5⟩ := hc5
  obtain ⟨v6, h6⟩ := hc6
  obtain ⟨w2, hw2⟩ : ∃ w2, w2 = (w.setCell ⟨jb, 6, none⟩ (.map (some w.heap.size))).setCell ⟨jb, 5, none⟩ (.int .i64 8) := ⟨_, rfl⟩
  have hs : w2.heap.size = w.heap.size := by rw [hw2]; simp [World.setCell]
  have o2 : Only w.heap.size jb w w2 := hw2 ▸ ((Only.refl _ _ _).setCell 6 _).setCell 5 _
  have t2 : w2.there jb 0 7 := hw2 ▸ World.there_setCells (World.there_setCells hfz jb 6 [.map (some w.heap.size)]) jb 5 [.int .i64 8]
  have c2 : ∀ j, j < 5 → w2.cell? ⟨jb, j, none⟩ = w.cell? ⟨jb, j, none⟩ := fun j hj' => by
    rw [hw2, World.cell?_setCell_other _ _ _ _ (fun e => by injection e; omega), World.cell?_setCell_other _ _ _ _ (fun e => by injection e; omega)]
  have c5 : w2.cell? ⟨jb, 5, none⟩ = some (.int .i64 8) := by
    rw [hw2]
    refine World.cell?_setCell_same _ _ _ (show _ = some v5 from ?_)
    rw [World.cell?_setCell_other _ _ _ _ (fun e => by injection e; omega)]; exact h5
  have c6 : w2.cell? ⟨jb, 6, none⟩ = some (.map (some w.heap.size)) := by
    rw [hw2, World.cell?_setCell_other _ _ _ _ (fun e => by injection e; omega)]
    exact World.cell?_setCell_same _ _ _ h6
  rw [← hw2]
  have hb : Below w.heap.size w2 (w2.alloc (.map #[] 0)) := (alloc_below w2 _).mono (Nat.le_of_eq hs.symm)
  have ho := World.ownsMap_made w2 Try.prog 3 hdr
  rw [hs] at ho
  exact ⟨o2.below hb, fun j hj' => (hb.cell (p := ⟨jb, j, none⟩) hj).trans (c2 j hj'), (hb.cell (p := ⟨jb, 5, none⟩) hj).trans c5, (hb.cell (p := ⟨jb, 6, none⟩) hj).trans c6, there_below t2 hb hj, Nat.le_refl _, ho, noV_vals ho hlo⟩
/-- A record's parts, as the walk needs them. -/
theorem rec_parts {l : List UInt8} {p n : Nat} (hn : l.length = n) (h : recLen (l.drop p) ≠ 0) : ∃ r u0 u1, recLen (l.drop p) = r ∧ 7 ≤ r ∧ r ≤ 257 ∧ p + r ≤ n ∧ (l.drop p)[0]? = some u0 ∧ (l.drop p)[1]? = some u1 ∧ (u0.toNat : Int) < 32 ∧ (l.drop p).getD 0 0 = u0 ∧ (l.drop p).getD 1 0 = u1 := by
  have h1 := recLen_few h
  have h2 := recLen_le (l.drop p)
  rw [List.length_drop] at h2
  obtain ⟨u0, e0⟩ := byte_get (l := l.drop p) (k := 0) (by rw [List.length_drop]; omega)
  obtain ⟨u1, e1⟩ := byte_get (l := l.drop p) (k := 1) (by rw [List.length_drop]; omega)
  have g0 : (l.drop p).getD 0 0 = u0 := by rw [List.getD_eq_getElem?_getD, e0]; rfl
  have g1 : (l.drop p).getD 1 0 = u1 := by rw [List.getD_eq_getElem?_getD, e1]; rfl
  exact ⟨_, u0, u1, rfl, h1.1, h1.2.1, by omega, e0, e1, by have := h1.2.2.1; rw [g0] at this; omega, g0, g1⟩
set_option maxHeartbeats 1600000 in
theorem take_f (w : World) (jb lo bk off n c : Nat) (l : List UInt8) (hc5 : ∃ v, w.cell? ⟨jb, 5, none⟩ = some v) (hc6 : ∃ v, w.cell? ⟨jb, 6, none⟩ = some v) (hfz : w.there jb 0 7) (hlo : lo ≤ w.heap.size) (hjl : jb < lo) (hbk : lo ≤ bk) (hb : Bs w w.heap.size (some ⟨bk, off, none⟩) n l) (hc : n ≤ c) (h8 : 32 ≤ n) (hn : (n : Int) ≤ 65536) :
    Calls Try.prog 42 #[.pointer (some ⟨jb, 0, none⟩), .slice (some ⟨bk, off, none⟩) n c] w fun e w' =>
      e = .returned (.int .i64 (takeOf l).2.2) ∧ ∃ mb D m, TakeS w w' jb lo (takeOf l).2.1 mb D (takeOf l).1 m := by
  have hmm := @run_makeMap Try.prog
  have hS0 : Aside _ := take_start w jb lo hc5 hc6 hfz hlo hjl
  have hjw : jb < w.heap.size := by omega
  obtain ⟨v5, x5⟩ := hc5
  obtain ⟨v6, x6⟩ := hc6
  have z5 : w.frozen? ⟨jb, 5, none⟩ = false := by have := (hfz 5 (by omega)).2; rwa [Nat.zero_add] at this
  have z6 : w.frozen? ⟨jb, 6, none⟩ = false := by have := (hfz 6 (by omega)).2; rwa [Nat.zero_add] at this
  have HB : Aside _ := hb
  have hlen := Lib.hid hb.len
  have Hto : Hid (takeOf l = takeR l l.length noV 8) := rfl
  generalize takeOf l = T at *
  clear hfz hb
  go_enter Try.func42, Try.ntmps42
  go_wp2
  go_loopg [] l.length (fun f wr => ∃ p mb D m V, Hid (takeR l f V p = T) ∧ l.length + 8 ≤ f + p ∧ p ≤ n ∧ m ≤ p ∧ TakeS w wr jb lo p mb D V m)
  case atStart =>
    exact ⟨8, w.heap.size, _, _, _, Hto.out.symm, Nat.le_refl _, by omega, Nat.zero_le _, hS0.out⟩
  case round =>
    obtain ⟨p, mb, D, m, V, hT, hf, hp, hm, hS⟩ := hrel
    have hne : bk ≠ jb := by omega
    have hbs := hS.bs HB.out hne
    have c5 := hS.c5
    have HT := Lib.hid hT.out
    have HS : Aside _ := hS
    clear hT hmm hS0 Hto x5 x6 z5 z6
    by_cases hz : recLen (l.drop p) = 0
    · have hend := takeR_end (V := V) gk hz
      rw [HT.out] at hend
      have HE := Lib.hid hend
      by_cases hpc : c = p
      · subst hpc
        obtain rfl : n = c := by omega
        have hfi := first_f wr w.heap.size (some ⟨bk, off, none⟩) 0 0 (l.drop n) ⟨by simp [hlen.out], fun h => absurd h (by omega)⟩ (by omega)
        rw [hz] at hfi
        clear hend hbs hS
        go_wp2_with fail
        refine hfi.mono ?_
        rintro e w2 ⟨rfl, hw⟩
        obtain rfl := hw.symm
        clear hfi
        go_wp2
        go_ret
        exact ⟨by rw [HE.out]; rfl, mb, D, m, by rw [HE.out]; exact HS.out⟩
      · have g0 : (p : Int) ≤ n := by omega
        have g1 : (n : Int) ≤ c := by omega
        have g2 : (p : Int) ≤ c := by omega
        have hfi := first_f wr w.heap.size (some ⟨bk, off + p, none⟩) (n - p) (c - p) (l.drop p) (hbs.drop_ p) (by omega)
        rw [hz] at hfi
        clear hend hbs hS
        go_wp2_with fail
        refine hfi.mono ?_
        rintro e w2 ⟨rfl, hw⟩
        obtain rfl := hw.symm
        clear hfi
        go_wp2
        go_ret
        exact ⟨by rw [HE.out]; rfl, mb, D, m, by rw [HE.out]; exact HS.out⟩
    · obtain ⟨r, u0, u1, hr, hr7, hr257, hpr, e0, e1, hu32, g0, g1⟩ := rec_parts hlen.out hz
      have hbr := hbs.drop_ p
      have hfi := first_f wr w.heap.size (some ⟨bk, off + p, none⟩) (n - p) (c - p) (l.drop p) hbr (by omega)
      rw [hr] at hfi
      have q0 : (p : Int) ≤ n := by omega
      have q1 : (n : Int) ≤ c := by omega
      have q2 : (p : Int) ≤ c := by omega
      have q4 : (p : Int) + r ≤ n := by omega
      have q5 : (7 : Int) ≤ r := by omega
      have q6 : (r : Int) ≤ 257 := by omega
      have hr0 : ((r : Int) == 0) = false := by simp; omega
      have hno := hbr.take_ (r - 1) (by omega)
      have HR := Lib.hid hr
      have HZ := Lib.hid hz
      have HG := Lib.hid (And.intro g0 g1)
      have HX := Lib.hid (And.intro e0 e1)
      have hob := open_any (some ⟨bk, off + p, none⟩) (r - 1) (c - p) ((l.drop p).take (r - 1)) wr _ hno hS.only.size (by omega) (by omega)
      clear hbs hS hz hr g0 g1 e0 e1 hno hbr
      go_wp2_with fail
      refine hfi.mono ?_
      rintro e w2 ⟨rfl, hw⟩
      obtain rfl := hw.symm
      clear hfi
      go_wp2_with fail
      refine hob.mono ?_
      rintro e w2 ⟨A2, n2, c2, rfl, hc2, hb2, B2⟩
      have HS2 : Aside _ := HS.out.below B2 hjw
      have hgk : gk ≠ 0 := by have := hlen.out; omega
      cases ho : opens ((l.drop p).take (r - 1)) with
      | none =>
        have hend := takeR_bad (V := V) hgk HZ.out (by rw [HR.out]; exact ho)
        rw [HT.out] at hend
        have HE := Lib.hid hend
        clear hend hob hb2 B2 ho hgk
        go_wp2
        go_ret
        exact ⟨by rw [HE.out]; rfl, mb, D, m, by rw [HE.out]; exact HS2.out⟩
      | some t =>
        obtain ⟨f, rfl⟩ : ∃ f, gk = f + 1 := ⟨gk - 1, by omega⟩
        have hstep := takeR_step (V := V) (f := f) HZ.out (by rw [HR.out, ho]; exact fun e => by cases e)
        rw [HT.out, HR.out] at hstep
        have HE := Lib.hid hstep
        have hbr2 := (HS2.out.bs HB.out hne).drop_ p
        have x0 := hbr2.at1 0 u0 HX.out.1
        have x1 := hbr2.at1 1 u1 HX.out.2
        rw [Nat.add_zero] at x0
        have HB2 : Aside _ := hbr2
        have c5 := HS2.out.c5
        have c6 := HS2.out.c6
        have hwf := key_wf (k := (u0.toNat : Int)) (by omega) hu32
        have hK0 : (0 : Int) ≤ (u0.toNat : Int) := by omega
        have hV : Hid (stepV V (l.drop p) = if u1.toNat = 254 then dropV V (u0.toNat : Int) else putV V (u0.toNat : Int) (((l.drop p).drop 2).take (r - 7))) := by
          show stepV V (l.drop p) = _
          unfold stepV
          rw [HG.out.1, HG.out.2, HR.out]
        obtain ⟨z0, hz0⟩ : ∃ z0, (u0.toNat : Int) = z0 := ⟨_, rfl⟩
        rw [hz0] at x0 hwf hu32 hK0 hV
        have own2 := HS2.out.own
        clear hstep hob hb2 B2 ho hgk hbr2 hz0 HX HG
        by_cases h254 : u1.toNat = 254
        · have hV' := hV.out
          rw [if_pos h254] at hV'
          have HV := Lib.hid hV'
          have b254 : ((u1.toNat : Int) == 254) = true := by simp; omega
          clear hV hV' h254
          generalize (u1.toNat : Int) = z1 at *
          go_wp2_with (first | (at_delete; refine wpList_delete_own _ rfl _ _ 57 3 rfl 35 law3 Try.underlying57 _ mb m D rfl own2 _ _ rfl (keyOf_int_mk Try.underlying3 hwf) ?_; intro w3 ho3 hm3; have HT3 : Aside _ := HS2.out.turn hm3.grown ho3 (HS2.out.vals.del own2 z0 ho3 hm3.grown) hjw; have d5 := HT3.out.c5; have z5 : w3.frozen? ⟨jb, 5, none⟩ = false := (by have := (HT3.out.frz 5 (by omega)).2; rwa [Nat.zero_add] at this); clear ho3 hm3 own2 x0 x1 c5 c6))
          go_roundg f
          case measure => omega
          case rel =>
            have hq := HT3.out.end_ hjl hlo (p + r)
            rw [Int.natCast_add] at hq
            exact ⟨p + r, mb, _, _, _, (HE.out.trans (by rw [HV.out])).symm, by omega, by omega, by omega, hq⟩
        · have hV' := hV.out
          rw [if_neg h254] at hV'
          have HV := Lib.hid hV'
          have b254 : ((u1.toNat : Int) == 254) = false := by simp; omega
          have hml : m < maxLen := by simp only [maxLen]; omega
          clear hV hV' h254
          generalize (u1.toNat : Int) = z1 at *
          have D2 := HS2.out.below (drew_below w2 _) hjw
          have ownd := D2.own
          have HD2 : Aside _ := D2
          have e5 : IntKind.i64.wrap ((r : Int) - 5) = (r : Int) - 5 := by rw [IntKind.wrap_i64]; omega
          have f5 : (0 : Int) ≤ (r : Int) - 5 := by omega
          have f6 : (2 : Int) ≤ (r : Int) - 5 := by omega
          have f7 : ((r : Int) - 5).toNat = r - 5 := by omega
          have f8 : ((r : Int) - 5) ≤ ((c - p : Nat) : Int) := by omega
          have f9 : 2 ≤ r - 5 := by omega
          have f10 : r - 5 ≤ c - p := by omega
          clear D2
          have hbd : Aside _ := HB2.out.drew
          obtain ⟨lv, hlv⟩ : ∃ lv, ((l.drop p).drop 2).take (r - 7) = lv := ⟨_, rfl⟩
          rw [hlv] at HV
          have hput : Aside (∀ (A' : Option Addr) (k : Nat) (w3 : World) (n' : Nat), k = lv.length → Bs w2.drew w.heap.size A' k lv → (∀ a, A' = some a → lo ≤ a.block) → k ≤ 250 → w3.ownsMap Try.prog 3 hdr mb n' (D.put (.int .i64 z0) (.held (.slice A' k k))) → w2.drew.grownBy w3 (some mb) → TakeS w w3 jb lo p mb (D.put (.int .i64 z0) (.held (.slice A' k k))) (putV V z0 lv) n') := by
            intro A' k w3 n' hk hb hl hk2 ho hg
            subst hk
            exact HD2.out.turn hg ho (HD2.out.vals.store HD2.out.own z0 A' _ lv ho hg (hb.more HD2.out.only.size) (Nat.le_refl _) hl hK0 hu32 hk2) hjw
          have hlvl : lv.length = r - 7 := by rw [← hlv]; have := hlen.out; simp; omega
          by_cases h7 : r - 5 = 2
          · have hl0 : lv = [] := List.eq_nil_of_length_eq_zero (by omega)
            have hput7 := fun w3 n' => hput.out (some ⟨bk, off + p, none⟩) 0 w3 n' (by rw [hl0]; rfl) (by rw [hl0]; exact Bs.empty _ _ _) (fun a e => by cases e; exact hbk) (by omega)
            have HP : Aside _ := hput7
            have Hlv := Lib.hid hlv
            have Hlvl := Lib.hid hlvl
            clear hput7 hl0 hlv hlvl
            go_wp2_with fail
            go_still_tail 11, (by kernel_rfl)
            go_wp2_with (first | (at_mapUpdate; refine wpList_mapUpdate_own _ rfl _ _ _ 57 rfl 3 35 law3 Try.underlying57 hdr mb _ _ rfl ownd hml _ _ _ rfl rfl (keyOf_int_mk Try.underlying3 hwf) _ [] rfl ?_; intro w3 ho3 hg3; have HT3 : Aside _ := HP.out w3 _ ho3 hg3; have d5 := HT3.out.c5; have z5 : w3.frozen? ⟨jb, 5, none⟩ = false := (by have := (HT3.out.frz 5 (by omega)).2; rwa [Nat.zero_add] at this); clear ho3 hg3 ownd own2 x0 x1 c5 c6))
            go_roundg f
            case measure => omega
            case rel =>
              have hq := HT3.out.end_ hjl hlo (p + r)
              rw [Int.natCast_add] at hq
              exact ⟨p + r, mb, _, _, _, (HE.out.trans (by rw [HV.out])).symm, by omega, by omega, by omega, hq⟩
          · have hbl : Bs w2.drew w.heap.size (some ⟨bk, off + p + 2, none⟩) (r - 5 - 2) lv := by
              have h1 := (hbd.out.drop_ 2).take_ (r - 7) (by omega)
              rw [hlv] at h1
              rwa [show r - 5 - 2 = r - 7 by omega]
            have hput7 := fun w3 n' => hput.out (some ⟨bk, off + p + 2, none⟩) (r - 5 - 2) w3 n' (by omega) hbl (fun a e => by cases e; exact hbk) (by omega)
            have HP : Aside _ := hput7
            have Hlv := Lib.hid hlv
            have Hlvl := Lib.hid hlvl
            clear hput7 hbl hlv hlvl
            go_wp2_with fail
            go_still_tail 11, (by kernel_rfl)
            go_wp2_with (first | (at_mapUpdate; refine wpList_mapUpdate_own _ rfl _ _ _ 57 rfl 3 35 law3 Try.underlying57 hdr mb _ _ rfl ownd hml _ _ _ rfl rfl (keyOf_int_mk Try.underlying3 hwf) _ [] rfl ?_; intro w3 ho3 hg3; have HT3 : Aside _ := HP.out w3 _ ho3 hg3; have d5 := HT3.out.c5; have z5 : w3.frozen? ⟨jb, 5, none⟩ = false := (by have := (HT3.out.frz 5 (by omega)).2; rwa [Nat.zero_add] at this); clear ho3 hg3 ownd own2 x0 x1 c5 c6))
            go_roundg f
            case measure => omega
            case rel =>
              have hq := HT3.out.end_ hjl hlo (p + r)
              rw [Int.natCast_add] at hq
              exact ⟨p + r, mb, _, _, _, (HE.out.trans (by rw [HV.out])).symm, by omega, by omega, by omega, hq⟩
end Go.Proofs.Ytpdlipkmojhnnaa
