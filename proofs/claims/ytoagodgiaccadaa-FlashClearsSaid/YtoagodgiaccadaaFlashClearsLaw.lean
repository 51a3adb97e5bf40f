/-
  FlashClears: but by an erase no bit is ever set.
-/
import Derived.Test.YtoagodgiaccadaaPartClear
import Derived.Test.YtoagodgiaccadaaFlashCut
import Derived.Test.YtoagodgiaccadaaOpsSmall
import Derived.Test.YtoagodgiaccadaaRefCopy
namespace Go.Proofs.Ytoagodgiaccadaa
open Go.RowKit
theorem OpAt.more {w : World} {B B' b o : Nat} {s : Opn} (h : OpAt w B b o s) (hB : B ≤ B') : OpAt w B' b o s := ⟨h.c0, h.c1, h.c2, h.c3, h.bs.more hB, h.cap, h.max, h.ik, h.ia, h.ib⟩
theorem Ops.more {w : World} {B B' m : Nat} {A : Option Addr} {os : List Opn} (h : Ops w B A m os) (hB : B ≤ B') : Ops w B' A m os :=
  ⟨h.len, fun hm => by
    obtain ⟨b, off, e, hlt, hc⟩ := h.place hm
    exact ⟨b, off, e, Nat.lt_of_lt_of_le hlt hB, fun i s hs => (hc i s hs).more hB⟩⟩
theorem prog_sane {F : Fl} (h : Sane F) (p : Nat) (b : List UInt8) : Sane (progBy F p b) := by
  intro hc
  have hc' : F.cut = true := hc
  have h0 := h hc'
  show 0 ≤ (if F.cut = true then F.rest - (lasts F b.length : Int) else F.rest)
  rw [if_pos hc']
  unfold lasts
  split
  · rename_i x; have := x.2; omega
  · rename_i x
    have : ¬ F.rest < (b.length : Int) := fun y => x ⟨hc', y⟩
    omega
/-- No bit of it is set, and where an error tells of another thing than power all is as it was. -/
def Clrd (F K : Fl) (ec : Int) : Prop := ∀ (i : Nat) (v u : UInt8), F.dat[i]? = some v → K.dat[i]? = some u → clr u v = true ∧ (ec = 0 ∨ ec = 30 ∨ u = v)
theorem clrd_same {F K : Fl} (h : K.dat = F.dat) (ec : Int) : Clrd F K ec := fun i v u hv hu => by
  rw [h, hv] at hu
  obtain rfl := Option.some.inj hu
  exact ⟨clr_same v, .inr (.inr rfl)⟩
/-- A program, whatever comes of it. -/
theorem prog_any (w : World) (g bb wb : Nat) (F : Fl) (p : Int) (A : Option Addr) (n c : Nat) (b : List UInt8) (h : FlashAt w g bb wb F) (hb : Bs w w.heap.size A n b) (hoff : 0 < n → Off g A ∧ Off bb A ∧ Off wb A) (hcap : n ≤ c) (sane : Sane F)
    (hp1 : -9223372036854775808 ≤ p) (hp2 : p ≤ 9223372036854775807) :
    Calls Try.prog 14 #[.pointer (some ⟨g, 0, none⟩), .int .i64 p, .slice A n c] w fun e w' => ∃ ec K, e = .returned (.int .i64 ec) ∧ FlashAt w' g bb wb K ∧ But3 w.heap.size g bb wb w w' ∧ K.dat.length = F.dat.length ∧ Sane K ∧ Clrd F K ec := by
  have hlb := hb.len
  by_cases hck : ck F p n = 0
  · obtain ⟨_, p0, _, pn⟩ := ck_zero hck
    obtain ⟨q, rfl⟩ : ∃ q : Nat, p = (q : Int) := ⟨p.toNat, by omega⟩
    refine (prog_yes w g bb wb F q A n c b h hb hoff hck hcap sane).mono fun e w' he => ?_
    rcases he with ⟨_, h2, h3⟩ | ⟨hk, h2, h3, h4⟩
    · subst h3
      exact ⟨31, F, h2, h, But3.refl _ _ _ _ _, rfl, sane, clrd_same rfl _⟩
    · have hl := lasts_le F b.length
      have ht : (b.take (lasts F b.length)).length = lasts F b.length := by rw [List.length_take]; omega
      refine ⟨_, _, h2, h3, h4, patch_length _ _ _ (by rw [ht]; omega), prog_sane sane _ _, fun i v u hv hu => ?_⟩
      have hu' : (patch F.dat q (b.take (lasts F b.length)))[i]? = some u := hu
      rw [patch_get _ _ _ (by rw [ht]; omega), ht] at hu'
      split at hu'
      · rename_i hi
        rw [List.getElem?_take, if_pos (by omega)] at hu'
        have hj := List.all_eq_true.1 hk (i - q) (List.mem_range.2 (by omega))
        rw [List.getD_eq_getElem?_getD, List.getD_eq_getElem?_getD, hu'] at hj
        have hpc : (piece F q n)[i - q]? = some v := by
          unfold piece
          rw [List.getElem?_take, if_pos (by omega), List.getElem?_drop, show q + (i - q) = i by omega, hv]
        rw [hpc] at hj
        refine ⟨hj, ?_⟩
        split
        · exact .inr (.inl rfl)
        · exact .inl rfl
      · rw [hv] at hu'
        obtain rfl := Option.some.inj hu'
        exact ⟨clr_same _, .inr (.inr rfl)⟩
  · refine (prog_no w g bb wb F p A n c h hp1 hp2 hck).mono fun e w' ⟨h2, h3⟩ => ?_
    subst h3
    exact ⟨_, F, h2, h, But3.refl _ _ _ _ _, rfl, sane, clrd_same rfl _⟩
/-- A read, whatever comes of it. -/
theorem read_any (w : World) (g bb wb : Nat) (F : Fl) (p n : Int) (h : FlashAt w g bb wb F) (hp1 : -9223372036854775808 ≤ p) (hp2 : p ≤ 9223372036854775807) :
    Calls Try.prog 15 #[.pointer (some ⟨g, 0, none⟩), .int .i64 p, .int .i64 n] w fun e w' => ∃ A N, ∃ ec : Int, e = .returned (.tuple #[.slice A N N, .int .i64 ec]) ∧ Below w.heap.size w w' ∧ (N : Int) ≤ 262144 ∧ (0 < N → ∃ j, A = some ⟨j, 0, none⟩ ∧ w.heap.size ≤ j ∧ j < w'.heap.size ∧ MI w' j N) := by
  by_cases hck : ck F p n = 0
  · obtain ⟨_, p0, n0, pn⟩ := ck_zero hck
    obtain ⟨q, rfl⟩ : ∃ q : Nat, p = (q : Int) := ⟨p.toNat, by omega⟩
    obtain ⟨N, rfl⟩ : ∃ q : Nat, n = (q : Int) := ⟨n.toNat, by omega⟩
    have hs := h.ok.small
    exact (read_yes w g bb wb F q N h hck).mono fun e w' ⟨h1, _, h3, h4, h5⟩ => ⟨_, N, 0, h1, h3, by omega, fun _ => ⟨_, rfl, Nat.le_refl _, by omega, h5⟩⟩
  · refine (read_no w g bb wb F p n h hp1 hp2 hck).mono fun e w' ⟨h2, h3⟩ => ?_
    subst h3
    exact ⟨none, 0, _, h2, Below.refl _ _, by omega, fun h => absurd h (by omega)⟩
/-- The state within a round: the flash, the image taken ahead, the step's kind. -/
structure St (w wq : World) (g bb wb X I L : Nat) (K : Fl) (kd : Int) (d : List UInt8) : Prop where
  fl : FlashAt wq g bb wb K
  be : Below w.heap.size w wq
  bf : Bs wq wq.heap.size (some ⟨I, 0, none⟩) L d
  bx : wq.cell? ⟨X, 0, none⟩ = some (.int .i64 kd)
  lt : X < wq.heap.size
  ge : w.heap.size ≤ g ∧ w.heap.size ≤ bb ∧ w.heap.size ≤ wb
  ne : (X ≠ g ∧ X ≠ bb ∧ X ≠ wb) ∧ (I ≠ g ∧ I ≠ bb ∧ I ≠ wb)
section
variable {w wq w' : World} {g bb wb X I L : Nat} {K : Fl} {kd : Int} {d : List UInt8}
theorem St.below (h : St w wq g bb wb X I L K kd d) (hb : Below wq.heap.size wq w') : St w w' g bb wb X I L K kd d :=
  ⟨h.fl.below hb, h.be.trans (hb.mono h.be.size), (h.bf.below hb).lt, (hb.cell (p := ⟨X, 0, none⟩) h.lt).trans h.bx, Nat.lt_of_lt_of_le h.lt hb.size, h.ge, h.ne⟩
theorem St.but {K' : Fl} (h : St w wq g bb wb X I L K kd d) (hb : But3 wq.heap.size g bb wb wq w') (hf : FlashAt w' g bb wb K') : St w w' g bb wb X I L K' kd d :=
  ⟨hf, h.be.trans (hb.toBelow h.be.size h.ge.1 h.ge.2.1 h.ge.2.2), h.bf.over hb h.ne.2.1 h.ne.2.2.1 h.ne.2.2.2, (hb.cell (p := ⟨X, 0, none⟩) h.lt h.ne.1.1 h.ne.1.2.1 h.ne.1.2.2).trans h.bx, Nat.lt_of_lt_of_le h.lt hb.size, h.ge, h.ne⟩
theorem St.set (h : St w wq g bb wb X I L K kd d) (M o : Nat) (v : Value) (hM : w.heap.size ≤ M) (h1 : g ≠ M ∧ bb ≠ M ∧ wb ≠ M) (h2 : X ≠ M) (h3 : I ≠ M) : St w (wq.setCell ⟨M, o, none⟩ v) g bb wb X I L K kd d := by
  have ho : Only wq.heap.size M wq (wq.setCell ⟨M, o, none⟩ v) := (Only.refl _ M wq).setCell o v
  have hb : But3 wq.heap.size M M M wq (wq.setCell ⟨M, o, none⟩ v) := But3.only1 ho
  refine ⟨h.fl.keep (fun k hk => ho.block k ?_ ?_) ho.size, h.be.setCell (p := ⟨M, o, none⟩) hM v, h.bf.over hb h3 h3 h3, (ho.cell (p := ⟨X, 0, none⟩) h.lt h2).trans h.bx, Nat.lt_of_lt_of_le h.lt ho.size, h.ge, h.ne⟩
  · rcases hk with rfl | rfl | rfl <;> first | exact h.fl.lt.1 | exact h.fl.lt.2.1 | exact h.fl.lt.2.2
  · rcases hk with rfl | rfl | rfl <;> first | exact h1.1 | exact h1.2.1 | exact h1.2.2
end
theorem MI.over {w w' : World} {M n g bb wb : Nat} (h : MI w M n) (hb : But3 w.heap.size g bb wb w w') (hM : M < w.heap.size) (h1 : M ≠ g) (h2 : M ≠ bb) (h3 : M ≠ wb) : MI w' M n := by
  have hk := hb.block M hM h1 h2 h3
  refine ⟨fun j hj => ⟨?_, ?_⟩, fun j hj => ?_⟩
  · rw [World.cell?_of_block (w := w) (w' := w') hk]; exact (h.1 j hj).1
  · rw [World.frozen?_of_block (w := w) (w' := w') hk]; exact (h.1 j hj).2
  · obtain ⟨z, hz⟩ := h.2 j hj
    exact ⟨z, (World.cell?_of_block (w := w) (w' := w') hk).trans hz⟩
set_option maxRecDepth 100000 in
set_option maxHeartbeats 40000000 in
theorem clears_small (sectors size : Int) (A : Option Addr) (m c : Nat) (os : List Opn) (w : World) (hO : Ops w w.heap.size A m os) (hm : m ≤ maxLen) (hse : sectors ≤ 6) (hs : size ≤ 64) :
    Calls Try.prog 3 #[.int .i64 sectors, .int .i64 size, .slice A m c] w fun e w' => e = .returned (.bool true) ∧ Below w.heap.size w w' := by
  have hmi : (m : Int) ≤ 9223372036854775807 := by simp only [maxLen] at hm; omega
  obtain ⟨z, hz⟩ : ∃ z : Nat, min (max size 16) 4096 = (z : Int) := ⟨(min (max size 16) 4096).toNat, by omega⟩
  obtain ⟨n, hn⟩ : ∃ z : Nat, min (max sectors 1) 64 = (z : Int) := ⟨(min (max sectors 1) 64).toNat, by omega⟩
  have hnew := fun w => new_f w sectors size n z hn hz
  obtain ⟨F0, hF0⟩ : ∃ F, fresh n z = F := ⟨_, rfl⟩
  have fl : F0.dat.length = n * z := by rw [← hF0]; simp [fresh]
  have sa0 : Sane F0 := fun x => by rw [← hF0] at x; cases x
  rw [hF0] at hnew
  obtain ⟨L, hL⟩ : ∃ L, F0.dat.length = L := ⟨_, rfl⟩
  have hLi : (L : Int) ≤ 384 := by
    have h1 : n ≤ 6 := by omega
    have h2 : z ≤ 64 := by omega
    have := Nat.mul_le_mul h1 h2
    omega
  have HL0 := Lib.hid hL
  have HS := Lib.hid sa0
  have hlen := Lib.hid hO.len
  clear hz hn fl hL hF0 sa0 hm
  go_enter Try.func3, Try.ntmps3
  go_wp2_with fail
  refine (alive_any w).mono ?_
  rintro e u1 ⟨rfl, B1⟩
  go_wp2_with fail
  refine (small3 A m c os u1 ((hO.below B1 (Nat.le_refl _)).more B1.size) (by simp only [maxLen]; omega)).mono ?_
  rintro e u1' ⟨sb, rfl, B1', h3⟩
  have B1 := B1.trans (B1'.mono B1.size)
  clear B1'
  cases sb with
  | false =>
    go_wp2
    go_ret
    exact ⟨rfl, B1⟩
  | true =>
    have H3 := Lib.hid (h3 rfl)
    clear h3
    go_wp2_with fail
    refine (hnew u1').mono ?_
    rintro e u2 ⟨g, bb, wb, rfl, f2, b2, g0, g1, g2⟩
    have B2 := B1.trans (b2.mono B1.size)
    have s1 := B1.size
    have hgw : w.heap.size ≤ g ∧ w.heap.size ≤ bb ∧ w.heap.size ≤ wb := by omega
    have HN := Lib.hid hgw
    clear hnew b2 B1 g0 g1 g2 s1 hgw
    go_wp2
    go_loopw [37] (fun i wr => ∃ (k : Nat) (G : Fl), k ≤ m ∧ i = .int .i64 k ∧ FlashAt wr g bb wb G ∧ Below w.heap.size w wr ∧ G.dat.length = L ∧ Sane G) (fun i _ => m - (intOf i).toNat)
    case atStart => exact ⟨0, F0, by omega, rfl, f2, B2, HL0.out, HS.out⟩
    case round =>
      clear f2 B2
      obtain ⟨k, G, hk, rfl, fG, BG, gl, sa⟩ := hrel
      by_cases hltm : k < m
      · obtain ⟨b, off, rfl, hb, hc⟩ := hO.place (by omega)
        obtain ⟨s, hs'⟩ := op_get (os := os) (k := k) (by rw [hlen.out]; omega)
        have hop := (hc k s hs').keep hb (fun p hp => BG.cell hp)
        have hcap := hop.cap
        have hr := hop.range
        have hbs := hop.bs
        have HLN := Lib.hid hbs.len
        have HI := Lib.hid (And.intro hop.ia (And.intro hop.ib (H3.out k s hs')))
        have hof : 0 < s.n → Off g s.A ∧ Off bb s.A ∧ Off wb s.A := fun hn => ⟨hbs.offs hn HN.out.1, hbs.offs hn HN.out.2.1, hbs.offs hn HN.out.2.2⟩
        obtain ⟨wx, hwx⟩ : ∃ wx, wr.alloc (.cells #[.int .i64 s.k, .int .i64 s.a, .int .i64 s.b, .slice s.A s.n s.c] 29) = wx := ⟨_, rfl⟩
        have hx := alloc_below wr (.cells #[.int .i64 s.k, .int .i64 s.a, .int .i64 s.b, .slice s.A s.n s.c] 29)
        rw [hwx] at hx
        have hxs : wx.heap.size = wr.heap.size + 1 := by rw [← hwx]; exact alloc_size _ _
        have fX := fG.below hx
        have BX := BG.trans (hx.mono BG.size)
        have bx' := hbs.below' hx BG.size
        have xc : ∀ (j : Nat) (v : Value), (#[.int .i64 s.k, .int .i64 s.a, .int .i64 s.b, .slice s.A s.n s.c] : Array Value)[j]? = some v → wx.cell? ⟨wr.heap.size, j, none⟩ = some v := fun j v hv => by
          rw [← hwx, cell_of_row _ _ _ _ _ _ (heap_alloc_new wr _)]; exact hv
        have y0 := xc 0 _ rfl
        have y1 := xc 1 _ rfl
        have y2 := xc 2 _ rfl
        have y3 := xc 3 _ rfl
        have hge : w.heap.size ≤ wr.heap.size := BG.size
        have HXS := Lib.hid hxs
        clear hxs
        have hgl := fG.lt
        clear xc hc hs' hop hx
        go_wp2_with (refine wpList_load_mid rfl 29 (.tmp 39) rfl b (off + k * 4) rfl [.int .i64 s.k, .int .i64 s.a, .int .i64 s.b, .slice s.A s.n s.c] _ hr Try.underlying29 rfl size29 ?_)
        refine (image_f wx g bb wb G fX).mono ?_
        rw [gl]
        rintro e wi ⟨rfl, rI, bI, sI, _⟩
        have fI := fX.below bI
        have z0 := (bI.cell (p := ⟨wr.heap.size, 0, none⟩) (by show wr.heap.size < _; have := HXS.out; omega)).trans y0
        have z1 := (bI.cell (p := ⟨wr.heap.size, 1, none⟩) (by show wr.heap.size < _; have := HXS.out; omega)).trans y1
        have z2 := (bI.cell (p := ⟨wr.heap.size, 2, none⟩) (by show wr.heap.size < _; have := HXS.out; omega)).trans y2
        have z3 := (bI.cell (p := ⟨wr.heap.size, 3, none⟩) (by show wr.heap.size < _; have := HXS.out; omega)).trans y3
        have si : St w wi g bb wb wr.heap.size wx.heap.size L G s.k G.dat := ⟨fI, BX.trans (bI.mono BX.size), rI, z0, by have := HXS.out; omega, HN.out, by have := HXS.out; omega⟩
        have bi := bx'.below' bI BX.size
        have hXI : wx.heap.size ≠ wr.heap.size := by have := HXS.out; omega
        clear HXS
        have HG := Lib.hid gl
        have hgel := fI.lt
        generalize hX : wr.heap.size = X at *
        generalize hI : wx.heap.size = I at *
        have hIs : I < wi.heap.size := by rw [← hI]; omega
        clear fX BX bx' rI bI fI BG fG hwx
        by_cases k0 : s.k = 0
        · rw [k0] at z0
          go_wp2_with fail
          refine (copy_any s.A s.n s.c s.l wi w.heap.size bi si.be.size (by have := HI.out.2.2; omega)).mono ?_
          rintro e wc ⟨v, rfl, hown, bC⟩
          obtain ⟨A', c', rfl, hcc, bm, hm1⟩ := own_open hown
          have hn' := bm.len
          have c1 := (bC.cell (p := ⟨X, 1, none⟩) si.lt).trans z1
          have sc := si.below bC
          generalize hN : s.l.length = N at *
          have hof' : 0 < N → Off g A' ∧ Off bb A' ∧ Off wb A' := fun hn => by
            obtain ⟨M, rfl, h1, h2, _⟩ := hm1 hn
            have := si.fl.lt
            refine ⟨fun a ha => ?_, fun a ha => ?_, fun a ha => ?_⟩ <;> (injection ha with ha; subst ha; show M ≠ _; omega)
          go_wp2_with fail
          refine (prog_any wc g bb wb G s.a A' N c' s.l sc.fl bm hof' hcc sa HI.out.1.1 HI.out.1.2).mono ?_
          rintro e wz ⟨ec, K, rfl, fK, bK, kl, sK, ck⟩
          have sz := sc.but bK fK
          have HM : Hid (0 < N → ∃ M, A' = some ⟨M, 0, none⟩ ∧ w.heap.size ≤ M ∧ M < wz.heap.size ∧ (g ≠ M ∧ bb ≠ M ∧ wb ≠ M) ∧ X ≠ M ∧ I ≠ M ∧ MI wz M N) := fun hn => by
            obtain ⟨M, rfl, h1, h2, h3⟩ := hm1 hn
            have hz := si.fl.lt
            have hz2 := si.lt
            have hz3 := si.be.size
            have hz4 := bK.size
            have hz5 := hIs
            refine ⟨M, rfl, by omega, by omega, by omega, by omega, by omega, ?_⟩
            exact h3.over bK h2 (by omega) (by omega) (by omega)
          have hNi : (N : Int) ≤ 3000 := by have := HI.out.2.2; have := HLN.out; omega
          have HK := Lib.hid (And.intro (show K.dat.length = L by rw [kl, gl]) (And.intro sK (And.intro ck True.intro)))
          clear sc bm hown hm1 hof' fK bK kl sK ck bC hcc hn' si bi z0 z1 z2 z3 c1 hIs
          go_wp2
          go_loopw [57] (fun i wq => ∃ j : Nat, (j : Int) ≤ (N : Int) ∧ i = .int .i64 j ∧ St w wq g bb wb X I L K s.k G.dat ∧ Hid (0 < N → ∃ M, A' = some ⟨M, 0, none⟩ ∧ w.heap.size ≤ M ∧ M < wq.heap.size ∧ (g ≠ M ∧ bb ≠ M ∧ wb ≠ M) ∧ X ≠ M ∧ I ≠ M ∧ MI wq M N)) (fun i _ => N - (intOf i).toNat)
          case atStart => exact ⟨0, by omega, rfl, sz, HM⟩
          case round =>
            clear sz HM
            obtain ⟨j, hj, rfl, sz, HM⟩ := hrel
            by_cases hlt : (j : Int) < (N : Int)
            · obtain ⟨M, rfl, h1, h2, h3, h4, h5, h6⟩ := HM.out (by omega)
              obtain ⟨v, hv⟩ := h6.2 j (by omega)
              have hfz := h6.frozen j (by omega)
              go_wp2
              go_roundw
              case rel => exact ⟨j + 1, by omega, by go_num, sz.set M j _ h1 h3 h4 h5, fun _ => ⟨M, rfl, h1, by simpa [World.setCell] using h2, h3, h4, h5, h6.set j _⟩⟩
              case measure => simp [intOf]; omega
            · obtain ⟨wz, hwz⟩ : ∃ wz, wz = wr := ⟨_, rfl⟩
              rw [← hwz] at sz ⊢
              clear hwz HM
              as_aux_lemma =>
                go_wp2_with fail
                refine (image_f wz g bb wb K sz.fl).mono ?_
                rw [HK.out.1]
                rintro e wv ⟨rfl, rV, bV, sV, _⟩
                have sv := sz.below bV
                generalize hJ : wz.heap.size = J at *
                clear bV sz
                go_wp2
                go_loopw [105] (fun i wq => ∃ j : Nat, (j : Int) ≤ (L : Int) ∧ i = .int .i64 j ∧ St w wq g bb wb X I L K s.k G.dat ∧ Bs wq wq.heap.size (some ⟨J, 0, none⟩) L K.dat) (fun i _ => L - (intOf i).toNat)
                case atStart => exact ⟨0, by omega, rfl, sv, rV⟩
                case round =>
                  clear sv rV
                  obtain ⟨j, hj, rfl, sv, rV⟩ := hrel
                  by_cases hlt : (j : Int) < (L : Int)
                  · obtain ⟨v, hv⟩ := byte_get (l := G.dat) (k := j) (by rw [HG.out]; omega)
                    obtain ⟨u, hu⟩ := byte_get (l := K.dat) (k := j) (by rw [HK.out.1]; omega)
                    have x1 := sv.bf.at_ j v hv
                    have x2 := rV.at_ j u hu
                    have x3 := sv.bx
                    rw [Nat.zero_add] at x1 x2
                    obtain ⟨hcl, hor⟩ := HK.out.2.2.1 j v u hv hu
                    have hcl2 : (bits .andNot .u8 (u.toNat : Int) (v.toNat : Int) != 0) = false := by
                      rw [bne, show (bits .andNot .u8 (u.toNat : Int) (v.toNat : Int) == 0) = true from hcl]; rfl
                    clear hv hu hcl
                    rcases hor with h0 | h0 | h0
                    · subst h0
                      as_aux_lemma =>
                        go_wp2
                        go_quiet (fail)
                        go_wp2
                        go_roundw
                        case rel => exact ⟨j + 1, by omega, by go_num, sv.below (drewN_below _ _ _), rV.below (drewN_below _ _ _)⟩
                        case measure => simp [intOf]; omega
                    · subst h0
                      as_aux_lemma =>
                        go_wp2
                        go_quiet (fail)
                        go_wp2
                        go_roundw
                        case rel => exact ⟨j + 1, by omega, by go_num, sv.below (drewN_below _ _ _), rV.below (drewN_below _ _ _)⟩
                        case measure => simp [intOf]; omega
                    · subst h0
                      by_cases e0 : ec = 0
                      · subst e0
                        as_aux_lemma =>
                          go_wp2
                          go_quiet (fail)
                          go_wp2
                          go_roundw
                          case rel => exact ⟨j + 1, by omega, by go_num, sv.below (drewN_below _ _ _), rV.below (drewN_below _ _ _)⟩
                          case measure => simp [intOf]; omega
                      · have q0 : (ec != 0) = true := bne_iff_ne.2 e0
                        by_cases e1 : ec = 30
                        · subst e1
                          as_aux_lemma =>
                            go_wp2
                            go_quiet (fail)
                            go_wp2
                            go_roundw
                            case rel => exact ⟨j + 1, by omega, by go_num, sv.below (drewN_below _ _ _), rV.below (drewN_below _ _ _)⟩
                            case measure => simp [intOf]; omega
                        · have q1 : (ec != 30) = true := bne_iff_ne.2 e1
                          as_aux_lemma =>
                            go_wp2
                            go_quiet (fail)
                            go_wp2
                            go_roundw
                            case rel => exact ⟨j + 1, by omega, by go_num, sv.below (drewN_below _ _ _), rV.below (drewN_below _ _ _)⟩
                            case measure => simp [intOf]; omega
                  · go_wp2
                    go_roundw
                    case rel => exact ⟨k + 1, K, by omega, by go_num, sv.fl, sv.be, HK.out.1, HK.out.2.1⟩
                    case measure => simp [intOf]; omega
        · by_cases k2 : s.k = 2
          · rw [k2] at z0
            go_wp2_with fail
            refine (read_any wi g bb wb G s.a s.b si.fl HI.out.1.1 HI.out.1.2).mono ?_
            rintro e wz ⟨A', N, ec, rfl, bR, hNi, hm1⟩
            have sz := si.below bR
            have HM : Hid (0 < N → ∃ M, A' = some ⟨M, 0, none⟩ ∧ w.heap.size ≤ M ∧ M < wz.heap.size ∧ (g ≠ M ∧ bb ≠ M ∧ wb ≠ M) ∧ X ≠ M ∧ I ≠ M ∧ MI wz M N) := fun hn => by
              obtain ⟨M, rfl, h1, h2, h3⟩ := hm1 hn
              have hz := si.fl.lt
              have hz2 := si.lt
              have hz3 := si.be.size
              have hz5 := hIs
              exact ⟨M, rfl, by omega, h2, by omega, by omega, by omega, h3⟩
            obtain ⟨K, hK⟩ : ∃ K, G = K := ⟨_, rfl⟩
            have HK := Lib.hid (And.intro (show K.dat.length = L by rw [← hK, gl]) (And.intro (show Sane K by rw [← hK]; exact sa) (And.intro (clrd_same (K := K) (F := G) (by rw [hK]) ec) (show K.dat = G.dat by rw [hK]))))
            have sz : St w wz g bb wb X I L K s.k G.dat := hK ▸ sz
            clear hK hm1 bR si bi z0 z1 z2 z3 hIs
            go_wp2
            go_loopw [80] (fun i wq => ∃ j : Nat, (j : Int) ≤ (N : Int) ∧ i = .int .i64 j ∧ St w wq g bb wb X I L K s.k G.dat ∧ Hid (0 < N → ∃ M, A' = some ⟨M, 0, none⟩ ∧ w.heap.size ≤ M ∧ M < wq.heap.size ∧ (g ≠ M ∧ bb ≠ M ∧ wb ≠ M) ∧ X ≠ M ∧ I ≠ M ∧ MI wq M N)) (fun i _ => N - (intOf i).toNat)
            case atStart => exact ⟨0, by omega, rfl, sz, HM⟩
            case round =>
              clear sz HM
              obtain ⟨j, hj, rfl, sz, HM⟩ := hrel
              by_cases hlt : (j : Int) < (N : Int)
              · obtain ⟨M, rfl, h1, h2, h3, h4, h5, h6⟩ := HM.out (by omega)
                obtain ⟨v, hv⟩ := h6.2 j (by omega)
                have hfz := h6.frozen j (by omega)
                go_wp2
                go_roundw
                case rel => exact ⟨j + 1, by omega, by go_num, sz.set M j _ h1 h3 h4 h5, fun _ => ⟨M, rfl, h1, by simpa [World.setCell] using h2, h3, h4, h5, h6.set j _⟩⟩
                case measure => simp [intOf]; omega
              · obtain ⟨wz, hwz⟩ : ∃ wz, wz = wr := ⟨_, rfl⟩
                rw [← hwz] at sz ⊢
                clear hwz HM
                as_aux_lemma =>
                  go_wp2_with fail
                  refine (image_f wz g bb wb K sz.fl).mono ?_
                  rw [HK.out.1]
                  rintro e wv ⟨rfl, rV, bV, sV, _⟩
                  have sv := sz.below bV
                  generalize hJ : wz.heap.size = J at *
                  clear bV sz
                  go_wp2
                  go_loopw [105] (fun i wq => ∃ j : Nat, (j : Int) ≤ (L : Int) ∧ i = .int .i64 j ∧ St w wq g bb wb X I L K s.k G.dat ∧ Bs wq wq.heap.size (some ⟨J, 0, none⟩) L K.dat) (fun i _ => L - (intOf i).toNat)
                  case atStart => exact ⟨0, by omega, rfl, sv, rV⟩
                  case round =>
                    clear sv rV
                    obtain ⟨j, hj, rfl, sv, rV⟩ := hrel
                    by_cases hlt : (j : Int) < (L : Int)
                    · obtain ⟨v, hv⟩ := byte_get (l := G.dat) (k := j) (by rw [HG.out]; omega)
                      obtain ⟨u, hu⟩ := byte_get (l := K.dat) (k := j) (by rw [HK.out.1]; omega)
                      have x1 := sv.bf.at_ j v hv
                      have x2 := rV.at_ j u hu
                      have x3 := sv.bx
                      rw [Nat.zero_add] at x1 x2
                      obtain ⟨hcl, hor⟩ := HK.out.2.2.1 j v u hv hu
                      have hcl2 : (bits .andNot .u8 (u.toNat : Int) (v.toNat : Int) != 0) = false := by
                        rw [bne, show (bits .andNot .u8 (u.toNat : Int) (v.toNat : Int) == 0) = true from hcl]; rfl
                      obtain rfl : u = v := by
                        rw [HK.out.2.2.2, hv] at hu
                        exact (Option.some.inj hu).symm
                      clear hv hu hcl hor
                      by_cases e0 : ec = 0
                      · subst e0
                        as_aux_lemma =>
                          go_wp2
                          go_quiet (fail)
                          go_wp2
                          go_roundw
                          case rel => exact ⟨j + 1, by omega, by go_num, sv.below (drewN_below _ _ _), rV.below (drewN_below _ _ _)⟩
                          case measure => simp [intOf]; omega
                      · have q0 : (ec != 0) = true := bne_iff_ne.2 e0
                        by_cases e1 : ec = 30
                        · subst e1
                          as_aux_lemma =>
                            go_wp2
                            go_quiet (fail)
                            go_wp2
                            go_roundw
                            case rel => exact ⟨j + 1, by omega, by go_num, sv.below (drewN_below _ _ _), rV.below (drewN_below _ _ _)⟩
                            case measure => simp [intOf]; omega
                        · have q1 : (ec != 30) = true := bne_iff_ne.2 e1
                          as_aux_lemma =>
                            go_wp2
                            go_quiet (fail)
                            go_wp2
                            go_roundw
                            case rel => exact ⟨j + 1, by omega, by go_num, sv.below (drewN_below _ _ _), rV.below (drewN_below _ _ _)⟩
                            case measure => simp [intOf]; omega
                    · go_wp2
                      go_roundw
                      case rel => exact ⟨k + 1, K, by omega, by go_num, sv.fl, sv.be, HK.out.1, HK.out.2.1⟩
                      case measure => simp [intOf]; omega
          · by_cases k3 : s.k = 3
            · rw [k3] at z0
              go_wp2_with fail
              refine (cut_f wi g bb wb G s.a si.fl HI.out.1.1 HI.out.1.2).mono ?_
              rintro e wz ⟨rfl, fZ, o6⟩
              obtain ⟨K, hK⟩ : ∃ K, { G with cut := decide (0 ≤ s.a), rest := s.a } = K := ⟨_, rfl⟩
              rw [hK] at fZ
              have sz := si.but (But3.only1 o6) fZ
              have hd : K.dat = G.dat := by rw [← hK]
              have HK := Lib.hid (And.intro (show K.dat.length = L by rw [hd, gl]) (And.intro (show Sane K by rw [← hK]; exact fun x => of_decide_eq_true x) (And.intro (clrd_same hd 0) hd)))
              clear hK fZ o6 hd si bi z0 z1 z2 z3
              as_aux_lemma =>
                go_wp2_with fail
                refine (image_f wz g bb wb K sz.fl).mono ?_
                rw [HK.out.1]
                rintro e wv ⟨rfl, rV, bV, sV, _⟩
                have sv := sz.below bV
                generalize hJ : wz.heap.size = J at *
                clear bV sz
                go_wp2
                go_loopw [105] (fun i wq => ∃ j : Nat, (j : Int) ≤ (L : Int) ∧ i = .int .i64 j ∧ St w wq g bb wb X I L K s.k G.dat ∧ Bs wq wq.heap.size (some ⟨J, 0, none⟩) L K.dat) (fun i _ => L - (intOf i).toNat)
                case atStart => exact ⟨0, by omega, rfl, sv, rV⟩
                case round =>
                  clear sv rV
                  obtain ⟨j, hj, rfl, sv, rV⟩ := hrel
                  by_cases hlt : (j : Int) < (L : Int)
                  · obtain ⟨v, hv⟩ := byte_get (l := G.dat) (k := j) (by rw [HG.out]; omega)
                    obtain ⟨u, hu⟩ := byte_get (l := K.dat) (k := j) (by rw [HK.out.1]; omega)
                    have x1 := sv.bf.at_ j v hv
                    have x2 := rV.at_ j u hu
                    have x3 := sv.bx
                    rw [Nat.zero_add] at x1 x2
                    obtain ⟨hcl, hor⟩ := HK.out.2.2.1 j v u hv hu
                    have hcl2 : (bits .andNot .u8 (u.toNat : Int) (v.toNat : Int) != 0) = false := by
                      rw [bne, show (bits .andNot .u8 (u.toNat : Int) (v.toNat : Int) == 0) = true from hcl]; rfl
                    obtain rfl : u = v := by
                      rw [HK.out.2.2.2, hv] at hu
                      exact (Option.some.inj hu).symm
                    clear hv hu hcl hor
                    as_aux_lemma =>
                      go_wp2
                      go_quiet (fail)
                      go_wp2
                      go_roundw
                      case rel => exact ⟨j + 1, by omega, by go_num, sv.below (drewN_below _ _ _), rV.below (drewN_below _ _ _)⟩
                      case measure => simp [intOf]; omega
                  · go_wp2
                    go_roundw
                    case rel => exact ⟨k + 1, K, by omega, by go_num, sv.fl, sv.be, HK.out.1, HK.out.2.1⟩
                    case measure => simp [intOf]; omega
            · by_cases k4 : s.k = 4
              · rw [k4] at z0
                go_wp2_with fail
                refine (restore_f wi g bb wb G si.fl).mono ?_
                rintro e wz ⟨rfl, fZ, o6⟩
                obtain ⟨K, hK⟩ : ∃ K, { G with cut := false, down := false } = K := ⟨_, rfl⟩
                rw [hK] at fZ
                have sz := si.but (But3.only1 o6) fZ
                have hd : K.dat = G.dat := by rw [← hK]
                have HK := Lib.hid (And.intro (show K.dat.length = L by rw [hd, gl]) (And.intro (show Sane K by rw [← hK]; exact fun x => by cases x) (And.intro (clrd_same hd 0) hd)))
                clear hK fZ o6 hd si bi z0 z1 z2 z3
                as_aux_lemma =>
                  go_wp2_with fail
                  refine (image_f wz g bb wb K sz.fl).mono ?_
                  rw [HK.out.1]
                  rintro e wv ⟨rfl, rV, bV, sV, _⟩
                  have sv := sz.below bV
                  generalize hJ : wz.heap.size = J at *
                  clear bV sz
                  go_wp2
                  go_loopw [105] (fun i wq => ∃ j : Nat, (j : Int) ≤ (L : Int) ∧ i = .int .i64 j ∧ St w wq g bb wb X I L K s.k G.dat ∧ Bs wq wq.heap.size (some ⟨J, 0, none⟩) L K.dat) (fun i _ => L - (intOf i).toNat)
                  case atStart => exact ⟨0, by omega, rfl, sv, rV⟩
                  case round =>
                    clear sv rV
                    obtain ⟨j, hj, rfl, sv, rV⟩ := hrel
                    by_cases hlt : (j : Int) < (L : Int)
                    · obtain ⟨v, hv⟩ := byte_get (l := G.dat) (k := j) (by rw [HG.out]; omega)
                      obtain ⟨u, hu⟩ := byte_get (l := K.dat) (k := j) (by rw [HK.out.1]; omega)
                      have x1 := sv.bf.at_ j v hv
                      have x2 := rV.at_ j u hu
                      have x3 := sv.bx
                      rw [Nat.zero_add] at x1 x2
                      obtain ⟨hcl, hor⟩ := HK.out.2.2.1 j v u hv hu
                      have hcl2 : (bits .andNot .u8 (u.toNat : Int) (v.toNat : Int) != 0) = false := by
                        rw [bne, show (bits .andNot .u8 (u.toNat : Int) (v.toNat : Int) == 0) = true from hcl]; rfl
                      obtain rfl : u = v := by
                        rw [HK.out.2.2.2, hv] at hu
                        exact (Option.some.inj hu).symm
                      clear hv hu hcl hor
                      as_aux_lemma =>
                        go_wp2
                        go_quiet (fail)
                        go_wp2
                        go_roundw
                        case rel => exact ⟨j + 1, by omega, by go_num, sv.below (drewN_below _ _ _), rV.below (drewN_below _ _ _)⟩
                        case measure => simp [intOf]; omega
                    · go_wp2
                      go_roundw
                      case rel => exact ⟨k + 1, K, by omega, by go_num, sv.fl, sv.be, HK.out.1, HK.out.2.1⟩
                      case measure => simp [intOf]; omega
              · go_wp2
                go_roundw
                case rel => exact ⟨k + 1, G, by omega, by go_num, si.fl, si.be, gl, sa⟩
                case measure => simp [intOf]; omega
      · obtain rfl : k = m := by omega
        go_wp2
        go_ret
        exact ⟨rfl, BG⟩
set_option maxRecDepth 100000 in
theorem clears_law (sectors size : Int) (A : Option Addr) (m c : Nat) (os : List Opn) (w : World) (hO : Ops w w.heap.size A m os) (hm : m ≤ maxLen) :
    Calls Try.prog 3 #[.int .i64 sectors, .int .i64 size, .slice A m c] w fun e w' => e = .returned (.bool true) ∧ Below w.heap.size w w' := by
  by_cases h1 : sectors ≤ 6
  · by_cases h2 : size ≤ 64
    · exact clears_small sectors size A m c os w hO hm h1 h2
    · go_enter Try.func3, Try.ntmps3
      go_wp2_with fail
      refine (alive_any w).mono ?_
      rintro e u1 ⟨rfl, B1⟩
      go_wp2
      go_ret
      exact ⟨rfl, B1⟩
  · go_enter Try.func3, Try.ntmps3
    go_wp2_with fail
    refine (alive_any w).mono ?_
    rintro e u1 ⟨rfl, B1⟩
    go_wp2
    go_ret
    exact ⟨rfl, B1⟩
end Go.Proofs.Ytoagodgiaccadaa
