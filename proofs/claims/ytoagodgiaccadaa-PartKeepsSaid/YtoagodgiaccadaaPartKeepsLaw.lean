/-
  PartKeeps: nothing beyond a part is turned, whatever is done to it.
-/
import Derived.Test.YtoagodgiaccadaaPartMore
import Derived.Test.YtoagodgiaccadaaFlashCut
import Derived.Test.YtoagodgiaccadaaOpsSmall
namespace Go.Proofs.Ytoagodgiaccadaa
open Go.RowKit
theorem OpAt.more {w : World} {B B' b o : Nat} {s : Opn} (h : OpAt w B b o s) (hB : B ≤ B') : OpAt w B' b o s := ⟨h.c0, h.c1, h.c2, h.c3, h.bs.more hB, h.cap, h.max, h.ik, h.ia, h.ib⟩
theorem Ops.more {w : World} {B B' m : Nat} {A : Option Addr} {os : List Opn} (h : Ops w B A m os) (hB : B ≤ B') : Ops w B' A m os :=
  ⟨h.len, fun hm => by
    obtain ⟨b, off, e, hlt, hc⟩ := h.place hm
    exact ⟨b, off, e, Nat.lt_of_lt_of_le hlt hB, fun i s hs => (hc i s hs).more hB⟩⟩
theorem prog_sane {F : Fl} (h : Sane F) (p : Nat) (b : List UInt8) : Sane (progBy F p b) := by
  intro hc
  have hc' : F.cut = true := hc
  have h0 := h hc'
  show 0 ≤ (if F.cut = true then F.rest - (lasts F b.length : Int) else F.rest)
  rw [if_pos hc']
  unfold lasts
  split
  · rename_i x; have := x.2; omega
  · rename_i x
    have : ¬ F.rest < (b.length : Int) := fun y => x ⟨hc', y⟩
    omega
theorem prog_within {F : Fl} (p : Nat) (b : List UInt8) (be si : Nat) (h1 : be ≤ p) (h2 : p + b.length ≤ be + si) (hf : p + b.length ≤ F.dat.length) : Within be si F (progBy F p b) := by
  have hl := lasts_le F b.length
  have ht : (b.take (lasts F b.length)).length = lasts F b.length := by rw [List.length_take]; omega
  refine ⟨patch_length _ _ _ (by rw [ht]; omega), rfl, rfl, fun i hi => ?_⟩
  show (patch F.dat p (b.take (lasts F b.length)))[i]? = _
  rw [patch_get _ _ _ (by rw [ht]; omega), ht, if_neg (by omega)]
/-- A write to a part, whatever comes of it. -/
theorem pwrite_any (W : World) (pp g bb wb fi co be si : Nat) (F : Fl) (p : Int) (A : Option Addr) (n c : Nat) (b : List UInt8) (h : PartAt W pp g fi co be si) (hf : FlashAt W g bb wb F) (hs : be + si ≤ F.dat.length) (hb : Bs W W.heap.size A n b) (hoff : 0 < n → Off g A ∧ Off bb A ∧ Off wb A) (hcap : n ≤ c) (sane : Sane F) (h1 : -9223372036854775808 ≤ p) (h2 : p ≤ 9223372036854775807) :
    Calls Try.prog 22 #[.pointer (some ⟨pp, 0, none⟩), .int .i64 p, .slice A n c] W fun e w' => ∃ ec G, e = .returned (.int .i64 ec) ∧ FlashAt w' g bb wb G ∧ But3 W.heap.size g bb wb W w' ∧ Within be si F G ∧ Sane G := by
  have hsm := hf.ok.small
  by_cases hc : pck F si p n = 0
  · obtain ⟨_, p0, _, pn⟩ := pck_zero hc
    obtain ⟨q, rfl⟩ : ∃ q : Nat, p = (q : Int) := ⟨p.toNat, by omega⟩
    have hlb := hb.len
    have bd : Below W.heap.size W W.drew := (Below.refl _ W).drew
    refine pwrite_yes W pp g bb wb fi co be si F q A n c h hf hs hc _ ?_
    refine (prog_yes W.drew g bb wb F (be + q) A n c b (hf.below bd) (hb.below bd) hoff (by have := ck_of_pck (p := (q : Int)) hc hs; push_cast; exact this) hcap sane).mono fun e w' he => ?_
    rcases he with ⟨_, e2, e3⟩ | ⟨_, e2, e3, e4⟩
    · subst e3
      exact ⟨31, e2, 31, F, e2, hf.below bd, But3.below bd, Within.refl _ _ _, sane⟩
    · exact ⟨_, e2, _, _, e2, e3, (But3.below bd).trans e4 (Nat.le_refl _), prog_within _ _ _ _ (by omega) (by omega) (by omega), prog_sane sane _ _⟩
  · refine (pwrite_no W pp g bb wb fi co be si F p A n c h hf (by omega) h1 h2 hc).mono fun e w' ⟨e1, e2⟩ => ?_
    subst e2
    exact ⟨_, F, e1, hf, But3.refl _ _ _ _ _, Within.refl _ _ _, sane⟩
set_option maxRecDepth 100000 in
set_option maxHeartbeats 2000000 in
theorem keeps_small (size first count : Int) (A1 : Option Addr) (n1 c1 : Nat) (l1 : List UInt8) (A : Option Addr) (m c : Nat) (os : List Opn) (w : World) (hb1 : Bs w w.heap.size A1 n1 l1) (hO : Ops w w.heap.size A m os) (hm : m ≤ maxLen) (hs : size ≤ 64) (hn1 : n1 ≤ 600)
    (q1 : -9223372036854775808 ≤ first) (q2 : first ≤ 9223372036854775807) (q3 : -9223372036854775808 ≤ count) (q4 : count ≤ 9223372036854775807) :
    Calls Try.prog 4 #[.int .i64 size, .int .i64 first, .int .i64 count, .slice A1 n1 c1, .slice A m c] w fun e w' => e = .returned (.bool true) ∧ Below w.heap.size w w' := by
  have hmi : (m : Int) ≤ 9223372036854775807 := by simp only [maxLen] at hm; omega
  obtain ⟨z, hz⟩ : ∃ z : Nat, min (max size 16) 4096 = (z : Int) := ⟨(min (max size 16) 4096).toNat, by omega⟩
  have z1 : 16 ≤ z := by omega
  have z2 : z ≤ 64 := by omega
  have i1 : (n1 : Int) ≤ 600 := by omega
  have hnew := fun w => new_f w 6 size 6 z (by decide) hz
  obtain ⟨F0, hF0⟩ : ∃ F, fresh 6 z = F := ⟨_, rfl⟩
  have fl : F0.dat.length = 6 * z := by rw [← hF0]; simp [fresh]
  have fs : F0.sec = z := by rw [← hF0]; rfl
  have fw : F0.wear.length = 6 := by rw [← hF0]; rfl
  rw [hF0] at hnew
  obtain ⟨F1, hF1⟩ : ∃ F, { F0 with dat := patch F0.dat 0 (l1.take (min n1 F0.dat.length)), cut := false, down := false } = F := ⟨_, rfl⟩
  have fl1 : F1.dat.length = 6 * z := by rw [← hF1, ← fl]; exact patch_length _ _ _ (by rw [List.length_take]; omega)
  have fs1 : F1.sec = z := by rw [← hF1]; exact fs
  have fw1 : F1.wear.length = 6 := by rw [← hF1]; exact fw
  have sa1 : Sane F1 := fun x => by rw [← hF1] at x; cases x
  obtain ⟨L, hL⟩ : ∃ L, F1.dat.length = L := ⟨_, rfl⟩
  have hLi : (L : Int) ≤ 384 := by omega
  have HH := Lib.hid (And.intro z1 (And.intro z2 (And.intro fl1 (And.intro fs1 fw1))))
  have HL := Lib.hid hL
  have HS := Lib.hid sa1
  have hlen := Lib.hid hO.len
  clear hz z1 z2 fl fs fw fl1 fs1 hL hF0 sa1 hm
  go_enter Try.func4, Try.ntmps4
  go_wp2_with fail
  refine (alive4 w).mono ?_
  rintro e u1 ⟨rfl, B1⟩
  go_wp2_with fail
  refine (small4 A m c os u1 ((hO.below B1 (Nat.le_refl _)).more B1.size) (by simp only [maxLen]; omega)).mono ?_
  rintro e u1' ⟨sb, rfl, B1'⟩
  have B1 := B1.trans (B1'.mono B1.size)
  clear B1'
  cases sb with
  | false =>
    go_wp2
    go_ret
    exact ⟨rfl, B1⟩
  | true =>
    go_wp2_with fail
    refine (hnew u1').mono ?_
    rintro e u2 ⟨g, bb, wb, rfl, f2, b2, g0, g1, g2⟩
    have B2 := B1.trans (b2.mono B1.size)
    have s1 := B1.size
    clear hnew b2 B1
    go_wp2_with fail
    refine (load_f u2 g bb wb F0 A1 n1 c1 l1 f2 (hb1.below B2).lt).mono ?_
    rintro e u3 ⟨rfl, f3, b3⟩
    replace f3 := f3.eqs hF1
    have B3 := B2.trans (b3.toBelow B2.size (by omega) (by omega) (by omega))
    clear f2 b3 B2 hF1
    go_wp2_with fail
    refine (image_f u3 g bb wb F1 f3).mono ?_
    rw [HL.out]
    rintro e u4 ⟨rfl, r4, b4, s4, _⟩
    have f4 := f3.below b4
    have B4 := B3.trans (b4.mono B3.size)
    have hlt := f3.lt
    generalize hI : u3.heap.size = I at *
    clear f3 b4 B3
    by_cases hfit : 0 ≤ first ∧ 1 ≤ count ∧ first + count ≤ 6
    · obtain ⟨a1, a2, a3⟩ := hfit
      obtain ⟨fi, rfl⟩ := Int.eq_ofNat_of_zero_le a1
      obtain ⟨co, rfl⟩ := Int.eq_ofNat_of_zero_le (show 0 ≤ count by omega)
      go_wp2_with fail
      refine (pnew_yes u4 g bb wb F1 fi co f4 (by omega) (by rw [fw1]; omega)).mono ?_
      rintro e u5 ⟨pp, be, si, rfl, p5, ok5, b5, hpp⟩
      have f5 := f4.below b5
      have B5 := B4.trans (b5.mono B4.size)
      have r5 := (r4.below b5).lt
      have hpl := p5.lt
      have HOK := Lib.hid ok5
      have HFI := Lib.hid (ok5.fits f4.ok)
      have HC := Lib.hid (And.intro a2 a3)
      have hpg : pp ≠ g ∧ pp ≠ bb ∧ pp ≠ wb := by omega
      have hIg : I ≠ g ∧ I ≠ bb ∧ I ≠ wb := by omega
      have hgw : w.heap.size ≤ g ∧ w.heap.size ≤ bb ∧ w.heap.size ≤ wb := by omega
      have HN := Lib.hid (And.intro hpg (And.intro hIg hgw))
      clear f4 b5 B4 r4 ok5 a1 a2 a3 q1 q2 q3 q4 hpp hpg hIg hgw g0 g1 g2 hlt s1 fw1
      go_wp2
      go_loopw [54] (fun i wr => ∃ (k : Nat) (G : Fl), k ≤ m ∧ i = .int .i64 k ∧ FlashAt wr g bb wb G ∧ PartAt wr pp g fi co be si ∧ Below w.heap.size w wr ∧ Within be si F1 G ∧ Sane G ∧ Bs wr wr.heap.size (some ⟨I, 0, none⟩) L F1.dat) (fun i _ => m - (intOf i).toNat)
      case atStart => exact ⟨0, F1, by omega, rfl, f5, p5, B5, Within.refl _ _ _, HS.out, r5⟩
      case round =>
        clear f5 p5 B5 r5 hpl
        obtain ⟨k, G, hk, rfl, fG, pG, BG, wi, sa, rG⟩ := hrel
        by_cases hltm : k < m
        · obtain ⟨b, off, rfl, hb, hc⟩ := hO.place (by omega)
          obtain ⟨s, hs⟩ := op_get (os := os) (k := k) (by rw [hlen.out]; omega)
          have hop := (hc k s hs).keep hb (fun p hp => BG.cell hp)
          have hcap := hop.cap
          have hr := hop.range
          have hbs := hop.bs
          have HI := Lib.hid (And.intro hop.ia hop.max)
          have hx := fun t => alloc_below wr (.cells #[.int .i64 s.k, .int .i64 s.a, .int .i64 s.b, .slice s.A s.n s.c] t)
          obtain ⟨wx, hwx⟩ : ∃ wx, wr.alloc (.cells #[.int .i64 s.k, .int .i64 s.a, .int .i64 s.b, .slice s.A s.n s.c] 44) = wx := ⟨_, rfl⟩
          have hx := hx 44
          rw [hwx] at hx
          have hxs : wx.heap.size = wr.heap.size + 1 := by rw [← hwx]; exact alloc_size _ _
          have fX := fG.below hx
          have pX := pG.below hx
          have rX := (rG.below hx).lt
          have BX := BG.trans (hx.mono BG.size)
          have bX := (hbs.below' hx BG.size).lt
          have xc : ∀ (j : Nat) (v : Value), (#[.int .i64 s.k, .int .i64 s.a, .int .i64 s.b, .slice s.A s.n s.c] : Array Value)[j]? = some v → wx.cell? ⟨wr.heap.size, j, none⟩ = some v := fun j v hv => by
            rw [← hwx, cell_of_row _ _ _ _ _ _ (heap_alloc_new wr _)]; exact hv
          have y0 := xc 0 _ rfl
          have y1 := xc 1 _ rfl
          have y3 := xc 3 _ rfl
          have hof : 0 < s.n → Off g s.A ∧ Off bb s.A ∧ Off wb s.A := fun hn => ⟨hbs.offs hn (by have := HN.out; omega), hbs.offs hn (by have := HN.out; omega), hbs.offs hn (by have := HN.out; omega)⟩
          have hfits : be + si ≤ G.dat.length := by rw [wi.len]; exact HFI.out
          clear xc hc hs hop hbs fG pG rG hx
          by_cases k0 : s.k = 0
          · rw [k0] at hwx y0
            go_wp2_with (refine wpList_load_mid rfl 44 (.tmp 56) rfl b (off + k * 4) rfl [.int .i64 s.k, .int .i64 s.a, .int .i64 s.b, .slice s.A s.n s.c] _ hr Try.underlying44 rfl size44 ?_)
            refine (pwrite_any wx pp g bb wb fi co be si G s.a s.A s.n s.c s.l pX fX hfits bX hof hcap sa HI.out.1.1 HI.out.1.2).mono ?_
            rintro e wy ⟨ec, K, rfl, fK, bK, wK, sK⟩
            go_wp2
            go_roundw
            case rel => exact ⟨k + 1, K, by omega, by go_num, fK, pX.over bK HN.out.1.1 HN.out.1.2.1 HN.out.1.2.2, BX.trans (bK.toBelow BX.size HN.out.2.2.1 HN.out.2.2.2.1 HN.out.2.2.2.2), wi.trans wK, sK, rX.over bK HN.out.2.1.1 HN.out.2.1.2.1 HN.out.2.1.2.2⟩
            case measure => simp [intOf]; omega
          · by_cases k1 : s.k = 1
            · rw [k1] at hwx y0
              go_wp2_with (refine wpList_load_mid rfl 44 (.tmp 56) rfl b (off + k * 4) rfl [.int .i64 s.k, .int .i64 s.a, .int .i64 s.b, .slice s.A s.n s.c] _ hr Try.underlying44 rfl size44 ?_)
              refine (pclear_f wx pp g bb wb fi co be si G pX ⟨HOK.out.one, by rw [wi.wear]; exact HOK.out.in_, by rw [wi.sec]; exact HOK.out.be, by rw [wi.sec]; exact HOK.out.si⟩ fX sa HN.out.1).mono ?_
              rintro e wy ⟨ec, K, rfl, fK, bK, wK, sK, _, _⟩
              go_wp2
              go_roundw
              case rel => exact ⟨k + 1, K, by omega, by go_num, fK, pX.over bK HN.out.1.1 HN.out.1.2.1 HN.out.1.2.2, BX.trans (bK.toBelow BX.size HN.out.2.2.1 HN.out.2.2.2.1 HN.out.2.2.2.2), wi.trans wK, sK, rX.over bK HN.out.2.1.1 HN.out.2.1.2.1 HN.out.2.1.2.2⟩
              case measure => simp [intOf]; omega
            · by_cases k3 : s.k = 3
              · rw [k3] at hwx y0
                go_wp2_with (refine wpList_load_mid rfl 44 (.tmp 56) rfl b (off + k * 4) rfl [.int .i64 s.k, .int .i64 s.a, .int .i64 s.b, .slice s.A s.n s.c] _ hr Try.underlying44 rfl size44 ?_)
                refine (cut_f wx g bb wb G s.a fX HI.out.1.1 HI.out.1.2).mono ?_
                rintro e wy ⟨rfl, fK, o6⟩
                have bK : But3 wx.heap.size g bb wb wx wy := But3.only1 o6
                go_wp2
                go_roundw
                case rel => exact ⟨k + 1, _, by omega, by go_num, fK, pX.over bK HN.out.1.1 HN.out.1.2.1 HN.out.1.2.2, BX.trans (bK.toBelow BX.size HN.out.2.2.1 HN.out.2.2.2.1 HN.out.2.2.2.2), wi.trans ⟨rfl, rfl, rfl, fun _ _ => rfl⟩, fun x => of_decide_eq_true x, rX.over bK HN.out.2.1.1 HN.out.2.1.2.1 HN.out.2.1.2.2⟩
                case measure => simp [intOf]; omega
              · by_cases k4 : s.k = 4
                · rw [k4] at hwx y0
                  go_wp2_with (refine wpList_load_mid rfl 44 (.tmp 56) rfl b (off + k * 4) rfl [.int .i64 s.k, .int .i64 s.a, .int .i64 s.b, .slice s.A s.n s.c] _ hr Try.underlying44 rfl size44 ?_)
                  refine (restore_f wx g bb wb G fX).mono ?_
                  rintro e wy ⟨rfl, fK, o6⟩
                  have bK : But3 wx.heap.size g bb wb wx wy := But3.only1 o6
                  go_wp2
                  go_roundw
                  case rel => exact ⟨k + 1, _, by omega, by go_num, fK, pX.over bK HN.out.1.1 HN.out.1.2.1 HN.out.1.2.2, BX.trans (bK.toBelow BX.size HN.out.2.2.1 HN.out.2.2.2.1 HN.out.2.2.2.2), wi.trans ⟨rfl, rfl, rfl, fun _ _ => rfl⟩, (fun x => by cases x), rX.over bK HN.out.2.1.1 HN.out.2.1.2.1 HN.out.2.1.2.2⟩
                  case measure => simp [intOf]; omega
                · go_wp2_with (refine wpList_load_mid rfl 44 (.tmp 56) rfl b (off + k * 4) rfl [.int .i64 s.k, .int .i64 s.a, .int .i64 s.b, .slice s.A s.n s.c] _ hr Try.underlying44 rfl size44 ?_)
                  go_roundw
                  case rel => exact ⟨k + 1, G, by omega, by go_num, fX, pX, BX, wi, sa, rX⟩
                  case measure => simp [intOf]; omega
        · obtain rfl : k = m := by omega
          go_wp2_with fail
          refine (image_f wr g bb wb G fG).mono ?_
          rw [show G.dat.length = L by rw [wi.len, HL.out]]
          rintro e wv ⟨rfl, rV, bV, sV, _⟩
          have fV := fG.below bV
          have BV := BG.trans (bV.mono BG.size)
          have rI := (rG.below bV).lt
          have hsec := fun (wq : World) (fq : FlashAt wq g bb wb G) => sector_f wq g bb wb G fq
          rw [show G.sec = z by rw [wi.sec]; exact HH.out.2.2.2.1] at hsec
          generalize hJ : wr.heap.size = J at *
          have HW := Lib.hid wi
          have hz0 : ((z : Int) == 0) = false := beq_false_of_ne (by have := HH.out.1; omega)
          have hzn : (z : Int) ≠ 0 := by have := HH.out.1; omega
          have hco : (co : Int) ≤ 6 := by have := HC.out; omega
          have hfi : (fi : Int) ≤ 6 := by have := HC.out; omega
          clear fG bV BG rG wi sa pG
          go_wp2
          go_loopw [87] (fun i wq => ∃ j : Nat, (j : Int) ≤ (L : Int) ∧ i = .int .i64 j ∧ FlashAt wq g bb wb G ∧ Below w.heap.size w wq ∧ Bs wq wq.heap.size (some ⟨I, 0, none⟩) L F1.dat ∧ Bs wq wq.heap.size (some ⟨J, 0, none⟩) L G.dat) (fun i _ => L - (intOf i).toNat)
          case atStart => exact ⟨0, by omega, rfl, fV, BV, rI, rV⟩
          case round =>
            clear fV BV rI rV
            obtain ⟨j, hj, rfl, fV, BV, rI, rV⟩ := hrel
            by_cases hlt : (j : Int) < (L : Int)
            · have hjL : j < L := by omega
              obtain ⟨v, hv⟩ := byte_get (l := F1.dat) (k := j) (by rw [HL.out]; omega)
              obtain ⟨u, hu⟩ := byte_get (l := G.dat) (k := j) (by rw [HW.out.len, HL.out]; omega)
              have x1 := rI.at_ j v hv
              have x2 := rV.at_ j u hu
              rw [Nat.zero_add] at x1 x2
              obtain ⟨d, hd⟩ : ∃ d : Nat, j / z = d := ⟨_, rfl⟩
              have hq : (j : Int).tdiv (z : Int) = (d : Int) := by rw [← hd]; rfl
              have hdl : d ≤ j := by rw [← hd]; exact Nat.div_le_self _ _
              have hqw : IntKind.i64.wrap (d : Int) = (d : Int) := by rw [IntKind.wrap_i64]; omega
              have hsw : IntKind.i64.wrap ((d : Int) - (fi : Int)) = (d : Int) - (fi : Int) := by rw [IntKind.wrap_i64]; omega
              have hin : ¬ (fi ≤ d ∧ d < fi + co) → u = v := fun hno => by
                have := HW.out.dat j (fun hx => hno (by
                  have e1 := HOK.out.be
                  have e2 := HOK.out.si
                  rw [HH.out.2.2.2.1] at e1 e2
                  have hz1 : 0 < z := by have := HH.out.1; omega
                  rw [← hd]
                  refine ⟨(Nat.le_div_iff_mul_le hz1).2 (by rw [← e1]; exact hx.1), (Nat.div_lt_iff_lt_mul hz1).2 (by rw [Nat.add_mul, ← e1, ← e2]; exact hx.2)⟩))
                rw [hu, hv] at this
                exact Option.some.inj this
              clear hv hu hd hdl
              by_cases g1 : (fi : Int) ≤ (d : Int)
              · by_cases g2 : (d : Int) - (fi : Int) < (co : Int)
                · clear hin
                  go_wp2_with fail
                  refine (hsec _ fV).mono ?_
                  rintro e w' ⟨rfl, hw⟩
                  obtain rfl := hw.symm
                  go_wp2_with fail
                  refine (hsec _ fV).mono ?_
                  rintro e w' ⟨rfl, hw⟩
                  obtain rfl := hw.symm
                  go_wp2
                  go_quiet (fail)
                  go_wp2
                  go_roundw
                  case rel => exact ⟨j + 1, by omega, by go_num, fV.below (drewN_below _ _ _), BV.trans (drewN_below _ _ _), rI.below (drewN_below _ _ _), rV.below (drewN_below _ _ _)⟩
                  case measure => simp [intOf]; omega
                · obtain rfl := hin (by omega)
                  clear hin
                  go_wp2_with fail
                  refine (hsec _ fV).mono ?_
                  rintro e w' ⟨rfl, hw⟩
                  obtain rfl := hw.symm
                  go_wp2_with fail
                  refine (hsec _ fV).mono ?_
                  rintro e w' ⟨rfl, hw⟩
                  obtain rfl := hw.symm
                  go_wp2
                  go_quiet (fail)
                  go_wp2
                  go_roundw
                  case rel => exact ⟨j + 1, by omega, by go_num, fV.below (drewN_below _ _ _), BV.trans (drewN_below _ _ _), rI.below (drewN_below _ _ _), rV.below (drewN_below _ _ _)⟩
                  case measure => simp [intOf]; omega
              · obtain rfl := hin (by omega)
                clear hin
                go_wp2_with fail
                refine (hsec _ fV).mono ?_
                rintro e w' ⟨rfl, hw⟩
                obtain rfl := hw.symm
                go_wp2
                go_quiet (fail)
                go_wp2
                go_roundw
                case rel => exact ⟨j + 1, by omega, by go_num, fV.below (drewN_below _ _ _), BV.trans (drewN_below _ _ _), rI.below (drewN_below _ _ _), rV.below (drewN_below _ _ _)⟩
                case measure => simp [intOf]; omega
            · go_wp2
              go_ret
              exact ⟨rfl, BV⟩
    · go_wp2_with fail
      refine (pnew_no u4 g bb wb F1 first count f4 q1 q2 (by rw [fw1]; omega)).mono ?_
      rintro e u5 ⟨rfl, hw⟩
      obtain rfl := hw.symm
      go_wp2
      go_ret
      exact ⟨rfl, B4⟩
set_option maxRecDepth 100000 in
theorem keeps_law (size first count : Int) (A1 : Option Addr) (n1 c1 : Nat) (l1 : List UInt8) (A : Option Addr) (m c : Nat) (os : List Opn) (w : World) (hb1 : Bs w w.heap.size A1 n1 l1) (hO : Ops w w.heap.size A m os) (hm : m ≤ maxLen)
    (q1 : -9223372036854775808 ≤ first) (q2 : first ≤ 9223372036854775807) (q3 : -9223372036854775808 ≤ count) (q4 : count ≤ 9223372036854775807) :
    Calls Try.prog 4 #[.int .i64 size, .int .i64 first, .int .i64 count, .slice A1 n1 c1, .slice A m c] w fun e w' => e = .returned (.bool true) ∧ Below w.heap.size w w' := by
  by_cases h1 : size ≤ 64
  · by_cases h2 : n1 ≤ 600
    · exact keeps_small size first count A1 n1 c1 l1 A m c os w hb1 hO hm h1 h2 q1 q2 q3 q4
    · have h2i : ¬ (n1 : Int) ≤ 600 := by omega
      clear q1 q2 q3 q4
      go_enter Try.func4, Try.ntmps4
      go_wp2_with fail
      refine (alive4 w).mono ?_
      rintro e u1 ⟨rfl, B1⟩
      go_wp2_with fail
      refine (small4 A m c os u1 ((hO.below B1 (Nat.le_refl _)).more B1.size) hm).mono ?_
      rintro e u2 ⟨sb, rfl, B2⟩
      have B := B1.trans (B2.mono B1.size)
      cases sb with
      | false =>
        go_wp2
        go_ret
        exact ⟨rfl, B⟩
      | true =>
        go_wp2
        go_ret
        exact ⟨rfl, B⟩
  · clear q1 q2 q3 q4
    go_enter Try.func4, Try.ntmps4
    go_wp2_with fail
    refine (alive4 w).mono ?_
    rintro e u1 ⟨rfl, B1⟩
    go_wp2
    go_ret
    exact ⟨rfl, B1⟩
end Go.Proofs.Ytoagodgiaccadaa
