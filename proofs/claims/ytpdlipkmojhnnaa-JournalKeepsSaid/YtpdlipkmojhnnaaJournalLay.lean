/-
  journal.lay: a group made anew.
-/
import Derived.Test.YtpdlipkmojhnnaaJournalLaid
namespace Go.Proofs.Ytpdlipkmojhnnaa
open Go.RowKit Go.Maps Go.Shelf
set_option maxRecDepth 100000
/-- What lay leaves: behind the erasure ('G0', its error 'ec0') all is a function of the flash. -/
def LayPost (W : World) (jb gi g bb wb fi be si co : Nat) (F : Fl) (pv : Option Nat) (V : Int → Option (List UInt8)) (ep : Int) (e : Ending) (w' : World) : Prop :=
  ∃ ec0 G0 F' p' ec, (Within be si F G0 ∧ Sane G0 ∧ (F.cut = false → F.down = false → ec0 = 0 ∧ G0.cut = false ∧ G0.down = false) ∧ (ec0 = 0 → Clr fi be si co F G0) ∧ Left be F G0 ec0) ∧
    ((F', p', ec) : Fl × Nat × Int) = (if ec0 = 0 then laid be si V ep G0 else (G0, 8, ec0)) ∧ e = .returned (.int .i64 ec) ∧ FlashAt w' g bb wb F' ∧
    ∃ w1, But3 W.heap.size g bb wb W w1 ∧ w' = (if ec = 0 then w1.setCells jb 3 [.int .i64 (gi : Int), .int .u32 ep, .int .i64 (p' : Int), .map pv] else w1)
/-- A store into another block leaves the flash. -/
theorem FlashAt.aside {w : World} {g bb wb : Nat} {F : Fl} (h : FlashAt w g bb wb F) (b j : Nat) (v : Value) (h1 : b ≠ g) (h2 : b ≠ bb) (h3 : b ≠ wb) : FlashAt (w.setCell ⟨b, j, none⟩ v) g bb wb F :=
  h.keep (fun k hk => Below.heap_setCell w _ v k (by rcases hk with rfl | rfl | rfl <;> (show _ ≠ b; omega))) (by rw [World.size_setCell]; exact Nat.le_refl _)
set_option maxRecDepth 100000 in
set_option maxHeartbeats 4000000 in
theorem lay_f (W : World) (jb lo gi pp g bb wb fi co be si : Nat) (F : Fl) (pv : Option Nat) (D : DataW Value) (V : Int → Option (List UInt8)) (ep : Int)
    (hgi : gi < 2) (hc : W.cell? ⟨jb, gi, none⟩ = some (.pointer (some ⟨pp, 0, none⟩))) (frz : W.there jb 0 7) (h : PartAt W pp g fi co be si) (hok : PartOk F fi co be si) (hf : FlashAt W g bb wb F) (hsane : Sane F) (hpp : pp ≠ g ∧ pp ≠ bb ∧ pp ≠ wb)
    (hj : jb ≠ g ∧ jb ≠ bb ∧ jb ≠ wb) (hlo : g < lo ∧ bb < lo ∧ wb < lo) (hV : Vals W lo pv D V) (h0 : 0 ≤ ep) (h1 : ep < 4294967296) :
    Calls Try.prog 41 #[.pointer (some ⟨jb, 0, none⟩), .int .i64 (gi : Int), .int .u32 ep, .map pv] W (LayPost W jb gi g bb wb fi be si co F pv V ep) := by
  have k1 := pclear_x W pp g bb wb fi co be si F h hok hf hsane hpp
  have hw2 : IntKind.i64.wrap (gi : Int) = (gi : Int) := by rw [IntKind.wrap_i64]; omega
  have HH : Aside _ := And.intro hok (And.intro hf (And.intro h (And.intro frz (And.intro hV (And.intro hpp (And.intro hj hlo))))))
  have hfits : Aside (be + si ≤ F.dat.length) := hok.fits hf.ok
  have hflt : Aside _ := hf.lt
  have hlen := keysOf_length V
  clear hok hf h frz hV hpp hj hlo hsane
  go_enter Try.func41, Try.ntmps41
  go_wp2_with fail
  refine k1.mono ?_
  rintro e w1 ⟨ec, G, rfl, f1, b1, wi, sn, on, cl, lf⟩
  clear k1
  by_cases he : ec = 0
  · subst he
    obtain ⟨hok, hf, h, frz, hV, hpp, hj, hlo⟩ := HH.out
    have hV1 := hV.but3 b1 hlo
    have h1w := h.over b1 hpp.1 hpp.2.1 hpp.2.2
    have ks := keys_f lo pv D V w1 hV1
    have HX : Aside _ := And.intro f1 (And.intro b1 (And.intro wi (And.intro sn (And.intro on (And.intro cl lf)))))
    clear f1 b1 wi sn on cl lf hok hf h frz hV
    go_wp2_with fail
    refine ks.mono ?_
    rintro e w2 ⟨v, rfl, hrow, _, b2⟩
    obtain ⟨A, c, rfl, hints⟩ := ints_of_own hrow
    have HI : Aside _ := And.intro hints (And.intro hV1 (And.intro h1w b2))
    clear ks hrow hints hV1 h1w b2
    generalize hn : (keysOf V).length = n at *
    have HN : Aside _ := hn
    clear hn
    go_wp2_with fail
    have hsz : Aside (W.heap.size ≤ w1.heap.size ∧ w1.heap.size ≤ w2.heap.size) := ⟨HX.out.2.1.size, HI.out.2.2.2.size⟩
    have hf2 : FlashAt w2 g bb wb G := HX.out.1.below HI.out.2.2.2
    have hfG : Aside (be + si ≤ G.dat.length) := by have := HX.out.2.2.1.len; have := hfits.out; show be + si ≤ G.dat.length; omega
    go_loopw [10, 31] (fun en i wr => ∃ (k p : Nat) (Fk : Fl), en = .int .i64 (p : Int) ∧ i = .int .i64 (k : Int) ∧ k ≤ n ∧ p ≤ 8 + 257 * k ∧
        layRecs be si V ((keysOf V).drop k) Fk p = layRecs be si V (keysOf V) G 8 ∧ FlashAt wr g bb wb Fk ∧ Sane Fk ∧ Fk.dat.length = G.dat.length ∧ But3 w2.heap.size g bb wb w2 wr)
      (fun _ i _ => n - (match i with | .int _ a => a.toNat | _ => 0))
    case atStart => exact ⟨0, 8, G, rfl, rfl, Nat.zero_le _, Nat.le_refl _, rfl, hf2, HX.out.2.2.2.1, rfl, But3.refl _ _ _ _ _⟩
    case round =>
      obtain ⟨k, p, Fk, rfl, rfl, hkn, hp, hlay, hfk, hsk, hdk, hbk⟩ := hrel
      have HR : Aside _ := And.intro hlay (And.intro hfk (And.intro hsk (And.intro hdk hbk)))
      clear hlay hfk hsk hdk hbk hf2
      by_cases hlt : k < n
      · have hkl : k < (keysOf V).length := by have := HN.out; omega
        have hdrop : Aside ((keysOf V).drop k = (keysOf V)[k] :: (keysOf V).drop (k + 1)) := List.drop_eq_getElem_cons hkl
        have hmem : (V (keysOf V)[k]).isSome = true := (keysOf_mem HI.out.2.1.keys _).1 (List.getElem_mem hkl)
        obtain ⟨ga, rfl, hga1, hga2, hcell⟩ := HI.out.1 k _ (List.getElem?_eq_getElem hkl)
        obtain ⟨x0, x1⟩ := HI.out.2.1.keys _ hmem
        have hcl2 := hcell
        generalize (keysOf V)[k] = x at hdrop hmem hcell hcl2 x0 x1
        obtain ⟨l, hVl⟩ := Option.isSome_iff_exists.1 hmem
        obtain ⟨kn, rfl⟩ : ∃ kn : Nat, x = (kn : Int) := ⟨x.toNat, by omega⟩
        have hsh := HI.out.2.1.short _ l hVl
        have hout := HR.out.2.2.2.2
        have hgw := hflt.out
        have hcr : wr.cell? ⟨ga, k, none⟩ = some (.int .i64 (kn : Int)) := by
          rw [← hcl2]
          exact World.cell?_of_block (w := w2) (hout.block ga hga2 (by have := hsz.out; omega) (by have := hsz.out; omega) (by have := hsz.out; omega))
        have hVr : Vals wr lo pv D V := (HI.out.2.1.below HI.out.2.2.2).but3 hout HH.out.2.2.2.2.2.2.2
        have hpr : PartAt wr pp g fi co be si := (HI.out.2.2.1.below HI.out.2.2.2).over hout HH.out.2.2.2.2.2.1.1 HH.out.2.2.2.2.2.1.2.1 HH.out.2.2.2.2.2.1.2.2
        obtain ⟨A1, c1, hrun, hbs, hcap⟩ := hVr.look1 hVl
        have kr := record_f wr kn l.length A1 l.length c1 l hbs (by omega)
        have hrec : recOf V (kn : Int) = seals (UInt8.ofNat kn :: UInt8.ofNat l.length :: l) := by unfold recOf; rw [hVl]; rfl
        have hrl := recOf_length V (kn : Int)
        rw [hVl] at hrl
        simp only [Option.getD_some] at hrl
        rw [← hrec] at kr
        obtain ⟨F5, en5, e5, hw5⟩ : ∃ F5 en5 e5, jwrote Fk be si p (recOf V (kn : Int)) = (F5, en5, e5) := ⟨_, _, _, rfl⟩
        have kw := fun (w4 : World) (b4 : Below wr.heap.size wr w4) (A2 : Option Addr) (N2 c2 : Nat) (hb2 : Bs w4 w4.heap.size A2 N2 (recOf V (kn : Int))) (hc2 : N2 ≤ c2) (hN : N2 = (recOf V (kn : Int)).length) (hoff : ∀ a, A2 = some a → wr.heap.size ≤ a.block) =>
          jwrite_f w4 pp g bb wb fi co be si Fk p A2 N2 c2 (recOf V (kn : Int)) (hpr.below b4) (HR.out.2.1.below b4) (by have := HR.out.2.2.2.1; have := hfG.out; omega) hb2
            (fun _ => by have := HR.out.2.1.lt; exact ⟨fun a ha => by have := hoff a ha; omega, fun a ha => by have := hoff a ha; omega, fun a ha => by have := hoff a ha; omega⟩) hc2 HR.out.2.2.1 (by omega) (by omega) HH.out.2.2.2.2.2.1
        rw [hw5] at kw
        have KW : Aside _ := kw
        have HZ : Aside _ := And.intro hrl (And.intro hw5 (And.intro hVr (And.intro hpr hout)))
        clear kw hw5 hrl hrec hVr hpr hout hgw hbs hcap hcl2 hcell hmem hVl x0 x1 hkl hga1 hga2
        go_wp2_with fail
        refine kr.mono ?_
        rintro e w4 hret
        obtain ⟨A2, N2, c2, rfl, hc2, hN2, hb2, bel2, hbase2⟩ := hret.slice2
        have kw2 := KW.out w4 bel2 A2 N2 c2 hb2 hc2 hN2 hbase2
        have HB : Aside _ := bel2
        clear kr hc2 hN2 hb2 bel2 hbase2 hret
        go_wp2_with fail
        refine kw2.mono ?_
        rintro e w5 ⟨rfl, f5, b5⟩
        clear kw2
        by_cases he5 : e5 = 0
        · subst he5
          have H5 : Aside _ := And.intro f5 b5
          clear f5 b5
          go_wp2
          go_roundw
          case rel =>
            obtain ⟨hrl, hw5, _, _, hout⟩ := HZ.out
            obtain ⟨hlay, _, hsk, hdk, _⟩ := HR.out
            have e1 : en5 = ((p + (recOf V (kn : Int)).length + 1 : Nat) : Int) := by
              have := jwrote_end (F := Fk) (be := be) (si := si) (p := p) (b := recOf V (kn : Int)) (by rw [hw5])
              rw [hw5] at this; exact this
            have s1 := jwrote_sane hsk be si p (recOf V (kn : Int))
            have s2 := jwrote_same Fk be si p (recOf V (kn : Int)) (by rw [hdk]; exact hfG.out)
            rw [hw5] at s1 s2
            refine ⟨k + 1, p + (recOf V (kn : Int)).length + 1, F5, by rw [e1], by go_num, by omega, by omega, ?_, H5.out.1, s1, s2.trans hdk, (hout.trans (But3.below HB.out) hout.size).trans H5.out.2 (Nat.le_trans hout.size HB.out.size)⟩
            rw [← hlay, hdrop.out]
            show _ = layRecs be si V ((kn : Int) :: (keysOf V).drop (k + 1)) Fk p
            rw [layRecs, hw5, if_pos rfl]
          case measure => go_num
        · have q0 : (e5 != 0) = true := bne_iff_ne.2 he5
          have H5 : Aside _ := And.intro f5 b5
          clear f5 b5
          go_wp2
          go_ret
          obtain ⟨hrl, hw5, _, _, hout⟩ := HZ.out
          obtain ⟨hlay, _, hsk, hdk, _⟩ := HR.out
          have hq : layRecs be si V (keysOf V) G 8 = (F5, p, e5) := by
            rw [← hlay, hdrop.out]
            show layRecs be si V ((kn : Int) :: (keysOf V).drop (k + 1)) Fk p = _
            rw [layRecs, hw5, if_neg he5]
          refine ⟨0, G, F5, p, e5, ⟨HX.out.2.2.1, HX.out.2.2.2.1, fun a b => ⟨rfl, (HX.out.2.2.2.2.1 a b).2⟩, fun _ => HX.out.2.2.2.2.2.1 (by first | rfl | trivial), HX.out.2.2.2.2.2.2⟩, ?_, rfl, H5.out.1, w5, ?_, ?_⟩
          · rw [if_pos rfl]; unfold laid; rw [hq, if_neg he5]
          · have c1 := (hout.trans (But3.below HB.out) hout.size).trans H5.out.2 (Nat.le_trans hout.size HB.out.size)
            have hz := hsz.out
            exact (HX.out.2.1.trans (But3.below HI.out.2.2.2) HX.out.2.1.size).trans c1 (by omega)
          · rw [if_neg he5]
      · obtain rfl : k = n := by omega
        have hq : layRecs be si V (keysOf V) G 8 = (Fk, p, 0) := by
          rw [← HR.out.1, List.drop_of_length_le (by have := HN.out; omega)]; rfl
        have HQ : Aside _ := hq
        have hout := HR.out.2.2.2.2
        have hpr : PartAt wr pp g fi co be si := (HI.out.2.2.1.below HI.out.2.2.2).over hout HH.out.2.2.2.2.2.1.1 HH.out.2.2.2.2.2.1.2.1 HH.out.2.2.2.2.2.1.2.2
        have kp := put32_any none 0 0 ep [] wr _ (Bs.empty wr wr.heap.size none) (Nat.le_refl _) (by omega) h0 h1
        rw [List.nil_append] at kp
        obtain ⟨F6, e6, hw6⟩ : ∃ F6 e6, pwrote Fk be si 1 (p32 ep) = (F6, e6) := ⟨_, _, rfl⟩
        have hlk : be + si ≤ Fk.dat.length := by have := HR.out.2.2.2.1; have := hfG.out; omega
        have kw := fun (w4 : World) (b4 : Below wr.heap.size wr w4) (A2 : Option Addr) (N2 c2 : Nat) (hb2 : Bs w4 w4.heap.size A2 N2 (p32 ep)) (hc2 : N2 ≤ c2) (hoff : ∀ a, A2 = some a → wr.heap.size ≤ a.block) =>
          pwrite_f w4 pp g bb wb fi co be si Fk 1 A2 N2 c2 (p32 ep) (hpr.below b4) (HR.out.2.1.below b4) hlk hb2
            (fun _ => by have := HR.out.2.1.lt; exact ⟨fun a ha => by have := hoff a ha; omega, fun a ha => by have := hoff a ha; omega, fun a ha => by have := hoff a ha; omega⟩) hc2 HR.out.2.2.1 (by decide) (by decide)
        have hs6 := pwrote_same Fk be si 1 (p32 ep) hlk
        have hn6 := pwrote_sane HR.out.2.2.1 be si 1 (p32 ep)
        rw [hw6] at kw hs6 hn6
        have KW : Aside _ := kw
        have HZ : Aside _ := And.intro hw6 (And.intro hlk (And.intro hs6 (And.intro hn6 (And.intro hpr hout))))
        clear kw hw6 hlk hpr hout hq hs6 hn6
        go_wp2_with fail
        refine kp.mono ?_
        rintro e w4 hret
        obtain ⟨A2, N2, c2, rfl, hc2, hN2, hb2, bel2, hbase2⟩ := hret.slice2
        have kw2 := KW.out w4 bel2 A2 N2 c2 hb2 hc2 hbase2
        have HB : Aside _ := bel2
        clear kp hc2 hN2 hb2 bel2 hbase2 hret
        go_wp2_with fail
        refine kw2.mono ?_
        rintro e w5 ⟨rfl, f5, b5⟩
        clear kw2
        have hbut : Aside (But3 W.heap.size g bb wb W w5) := by
          have hout := HZ.out.2.2.2.2.2
          have c1 := (hout.trans (But3.below HB.out) hout.size).trans b5 (Nat.le_trans hout.size HB.out.size)
          have hz := hsz.out
          exact (HX.out.2.1.trans (But3.below HI.out.2.2.2) HX.out.2.1.size).trans c1 (by omega)
        have hp5 : Aside (PartAt w5 pp g fi co be si) := (HZ.out.2.2.2.2.1.below HB.out).over b5 HH.out.2.2.2.2.2.1.1 HH.out.2.2.2.2.2.1.2.1 HH.out.2.2.2.2.2.1.2.2
        have H5 : Aside _ := And.intro f5 b5
        clear f5 b5
        by_cases he6 : e6 = 0
        · subst he6
          obtain ⟨F7, e7, hw7⟩ : ∃ F7 e7, pwrote F6 be si 0 [0] = (F7, e7) := ⟨_, _, rfl⟩
          have kz := pwrite_f (w5.alloc (.cells #[.int .u8 0] 5)) pp g bb wb fi co be si F6 0 (some ⟨w5.heap.size, 0, none⟩) 1 1 [0] (hp5.out.below (alloc_below w5 _)) (H5.out.1.below (alloc_below w5 _)) (by have := HZ.out.2.2.1.1; have := HZ.out.2.1; omega)
            (by have := Bs.lit_ w5 5 #[.int .u8 0] (0, 0) [0] rfl; exact this.lt)
            (fun _ => by have := H5.out.1.lt; refine ⟨fun a ha => ?_, fun a ha => ?_, fun a ha => ?_⟩ <;> (injection ha with ha; subst ha; show w5.heap.size ≠ _; omega)) (Nat.le_refl _) HZ.out.2.2.2.1 (by decide) (by decide)
          rw [hw7] at kz
          have H7 : Aside _ := hw7
          clear hw7
          go_wp2_with fail
          refine kz.mono ?_
          rintro e w7 ⟨rfl, f7, b7⟩
          clear kz
          have hbut7 : Aside (But3 W.heap.size g bb wb W w7) := (hbut.out.trans (But3.below (alloc_below w5 _)) hbut.out.size).trans b7 (by have := hbut.out.size; rw [alloc_size]; omega)
          have HF7 : Aside _ := f7
          clear f7 b7
          by_cases he7 : e7 = 0
          · subst he7
            have hjl : jb < W.heap.size := World.block_lt_of_cell? _ _ hc
            have hjj := HH.out.2.2.2.2.2.2.1
            have hjb : w7.heap[jb]? = W.heap[jb]? := hbut7.out.block jb hjl hjj.1 hjj.2.1 hjj.2.2
            have ht : ∀ j, j < 7 → (∃ u, w7.cell? ⟨jb, j, none⟩ = some u) ∧ w7.frozen? ⟨jb, j, none⟩ = false := fun j hj => by
              have hh := HH.out.2.2.2.1 j hj
              rw [Nat.zero_add] at hh
              have e1 : w7.cell? ⟨jb, j, none⟩ = W.cell? ⟨jb, j, none⟩ := World.cell?_of_block (w := W) hjb
              have e2 : w7.frozen? ⟨jb, j, none⟩ = W.frozen? ⟨jb, j, none⟩ := World.frozen?_of_block (w := W) hjb
              rw [e1, e2]
              exact ⟨Option.isSome_iff_exists.1 hh.1, hh.2⟩
            obtain ⟨⟨u3, c3⟩, z3⟩ := ht 3 (by decide)
            obtain ⟨⟨u4, c4⟩, z4⟩ := ht 4 (by decide)
            obtain ⟨⟨u5, c5⟩, z5⟩ := ht 5 (by decide)
            obtain ⟨⟨u6, c6⟩, z6⟩ := ht 6 (by decide)
            have HJ : Aside _ := hjj
            clear hjb hjl ht hjj
            go_wp2
            go_ret
            refine ⟨0, G, F7, p, 0, ⟨HX.out.2.2.1, HX.out.2.2.2.1, fun a b => ⟨rfl, (HX.out.2.2.2.2.1 a b).2⟩, fun _ => HX.out.2.2.2.2.2.1 (by first | rfl | trivial), HX.out.2.2.2.2.2.2⟩, ?_, rfl, ?_, w7, hbut7.out, by rw [if_pos rfl]; rfl⟩
            · rw [if_pos rfl]; unfold laid layHead; rw [HQ.out, if_pos rfl, HZ.out.1, if_pos rfl, H7.out]
            · have st := fun (w : World) (hw : FlashAt w g bb wb F7) (j : Nat) (v : Value) => FlashAt.aside hw jb j v HJ.out.1 HJ.out.2.1 HJ.out.2.2
              exact st _ (st _ (st _ (st _ HF7.out _ _) _ _) _ _) _ _
          · have q0 : (e7 != 0) = true := bne_iff_ne.2 he7
            go_wp2
            go_ret
            refine ⟨0, G, F7, p, e7, ⟨HX.out.2.2.1, HX.out.2.2.2.1, fun a b => ⟨rfl, (HX.out.2.2.2.2.1 a b).2⟩, fun _ => HX.out.2.2.2.2.2.1 (by first | rfl | trivial), HX.out.2.2.2.2.2.2⟩, ?_, rfl, HF7.out, w7, hbut7.out, by rw [if_neg he7]⟩
            rw [if_pos rfl]; unfold laid layHead; rw [HQ.out, if_pos rfl, HZ.out.1, if_pos rfl, H7.out]
        · have q0 : (e6 != 0) = true := bne_iff_ne.2 he6
          go_wp2
          go_ret
          refine ⟨0, G, F6, p, e6, ⟨HX.out.2.2.1, HX.out.2.2.2.1, fun a b => ⟨rfl, (HX.out.2.2.2.2.1 a b).2⟩, fun _ => HX.out.2.2.2.2.2.1 (by first | rfl | trivial), HX.out.2.2.2.2.2.2⟩, ?_, rfl, H5.out.1, w5, hbut.out, by rw [if_neg he6]⟩
          rw [if_pos rfl]; unfold laid layHead; rw [HQ.out, if_pos rfl, HZ.out.1, if_neg he6]
  · have q0 : (ec != 0) = true := bne_iff_ne.2 he
    have HX : Aside _ := And.intro f1 (And.intro b1 (And.intro wi (And.intro sn (And.intro on (And.intro cl lf)))))
    clear f1 b1 wi sn on cl lf
    go_wp2
    go_ret
    exact ⟨ec, G, G, 8, ec, HX.out.2.2, by rw [if_neg he], rfl, HX.out.1, w1, HX.out.2.1, by rw [if_neg he]⟩
end Go.Proofs.Ytpdlipkmojhnnaa
