/-
  journal.turn: a record behind the last one.
-/
import Derived.Test.YtpdlipkmojhnnaaJournalTurn
namespace Go.Proofs.Ytpdlipkmojhnnaa
open Go.RowKit Go.Maps Go.Shelf
set_option maxRecDepth 100000
set_option maxRecDepth 100000 in
set_option maxHeartbeats 2000000 in
theorem turn_writes (W : World) (J : JP) (F : Fl) (s : JS) (h : JAt W J F s) (pn : Option Nat) (D : DataW Value) (V : Int → Option (List UInt8)) (hV : Vals W J.lo pn D V) (A : Option Addr) (n c : Nat) (b : List UInt8) (hb : Bs W W.heap.size A n b) (hoff : 0 < n → Off J.g A ∧ Off J.bb A ∧ Off J.wb A) (hcap : n ≤ c)
    (hfull : sizeAll V ≤ s.size) (hroom : n + 1 + s.en ≤ s.size) (hn : (n : Int) ≤ 262144) :
    Calls Try.prog 29 #[.pointer (some ⟨J.jb, 0, none⟩), .map pn, .slice A n c] W fun e w' => ∃ F' en' ec w1, jwrote F (J.be s.cnt) (J.si s.cnt) s.en b = (F', en', ec) ∧ e = .returned (.int .i64 ec) ∧ FlashAt w' J.g J.bb J.wb F' ∧ But3 W.heap.size J.g J.bb J.wb W w1 ∧
      w' = (if ec = 0 then w1.setCells J.jb 5 [.int .i64 en', .map pn] else w1) := by
  have c2 := h.c2
  have hjl : J.jb < W.heap.size := World.block_lt_of_cell? _ _ c2
  have ks := sizeof_f J.lo pn D V W.drew (hV.below (below_drew W))
  have c2d : W.drew.cell? ⟨J.jb, 2, none⟩ = some (.int .i64 (s.size : Int)) := c2
  have kr : Aside (∀ w1, Below W.heap.size W w1 → Calls Try.prog 20 #[.pointer (some ⟨J.jb, 0, none⟩)] w1 fun e w' => e = .returned (.int .i64 ((s.size : Int) - (s.en : Int))) ∧ Below w1.heap.size w1 w') := fun w1 hb => room_f w1 J F s (h.below hb)
  have hw1 : IntKind.i64.wrap ((n : Int) + 1) = (n : Int) + 1 := by rw [IntKind.wrap_i64]; omega
  obtain ⟨F', en', ec, hj⟩ : ∃ F' en' ec, jwrote F (J.be s.cnt) (J.si s.cnt) s.en b = (F', en', ec) := ⟨_, _, _, rfl⟩
  have hsm := h.fl.ok.small
  have hft := (h.ok s.cnt h.cnt).fits h.fl.ok
  have hszz := h.size s.cnt h.cnt
  have kw := fun (w1 : World) (hB : Below W.heap.size W w1) => jwrite_f w1 (J.pp s.cnt) J.g J.bb J.wb (J.fi s.cnt) (J.co s.cnt) (J.be s.cnt) (J.si s.cnt) F s.en A n c b ((h.part _ h.cnt).below hB) (h.fl.below hB) hft ((hb.below hB).lt) hoff hcap h.sane (by have := h.en; omega) hn (h.off _ h.cnt)
  rw [hj] at kw
  have KW : Aside _ := kw
  have HH : Aside _ := And.intro h.frz (And.intro h.joff hj)
  have hcells : Aside (∀ w1 : World, w1.heap[J.jb]? = W.heap[J.jb]? → w1.cell? ⟨J.jb, s.cnt, none⟩ = some (.pointer (some ⟨J.pp s.cnt, 0, none⟩)) ∧ w1.cell? ⟨J.jb, 3, none⟩ = some (.int .i64 (s.cnt : Int)) ∧ w1.cell? ⟨J.jb, 5, none⟩ = some (.int .i64 (s.en : Int)) ∧ w1.cell? ⟨J.jb, 6, none⟩ = some (.map s.pv)) := fun w1 e => by
    have hc : ∀ j, w1.cell? ⟨J.jb, j, none⟩ = W.cell? ⟨J.jb, j, none⟩ := fun j => World.cell?_of_block (w := W) e
    exact ⟨(hc _).trans (h.c0 _ h.cnt), (hc _).trans h.c3, (hc _).trans h.c5, (hc _).trans h.c6⟩
  have hcnt := h.cnt
  clear kw hj hb hoff hsm hft hszz
  generalize sizeAll V = sv at *
  generalize s.size = sz at *
  generalize s.en = en at *
  generalize s.cnt = cn at *
  clear h hV
  go_enter Try.func29, Try.ntmps29
  go_wp2_with fail
  go_region_held (fun w => w.cell? ⟨J.jb, 2, none⟩ = some (.int .i64 (sz : Int))) (first | assumption | exact c2) ((go_at_call 46; refine ks.mono ?_; rintro e w1 ⟨rfl, hb⟩; have hc1 := (hb.cell (p := ⟨J.jb, 2, none⟩) hjl).trans c2))
  have hB1 : Aside (Below W.heap.size W w1) := (below_drew W).trans hb
  go_wp2_with fail
  refine (kr.out w1 hB1.out).mono ?_
  rintro e w2 ⟨rfl, hb2⟩
  have hB2 : Aside (Below W.heap.size W w2) := hB1.out.trans (hb2.mono hB1.out.size)
  clear hb hc1 hb2 c2d ks c2
  go_wp2_with fail
  have hB3 : Aside (Below W.heap.size W w2.drew) := hB2.out.trans ((below_drew w2).mono hB2.out.size)
  have k3 := KW.out w2.drew hB3.out
  obtain ⟨d0, d3, d5, d6⟩ := hcells.out w2 (hB2.out.block _ hjl)
  go_region_held (fun w => w.cell? ⟨J.jb, cn, none⟩ = some (.pointer (some ⟨J.pp cn, 0, none⟩)) ∧ w.cell? ⟨J.jb, 3, none⟩ = some (.int .i64 (cn : Int)) ∧ w.cell? ⟨J.jb, 5, none⟩ = some (.int .i64 (en : Int)))
    (first | assumption | exact ⟨d0, d3, d5⟩)
    ((go_at_call 47; refine k3.mono ?_; rintro e w5 ⟨rfl, f5, b5⟩; have hc5 := hcells.out w5 ((b5.block J.jb (Nat.lt_of_lt_of_le hjl hB3.out.size) HH.out.2.1.1 HH.out.2.1.2.1 HH.out.2.1.2.2).trans (hB3.out.block _ hjl)); have hc6 := And.intro hc5.1 (And.intro hc5.2.1 hc5.2.2.1)))
  have hjj := HH.out.2.1
  have hbut : Aside (But3 W.heap.size J.g J.bb J.wb W w5) := (But3.below hB3.out).trans b5 hB3.out.size
  have H5 : Aside _ := f5
  by_cases he : ec = 0
  · subst he
    have hjb : w5.heap[J.jb]? = W.heap[J.jb]? := hbut.out.block J.jb hjl hjj.1 hjj.2.1 hjj.2.2
    have hz : ∀ j, j < 7 → w5.frozen? ⟨J.jb, j, none⟩ = false := fun j hj => by
      have hh := (HH.out.1 j hj).2
      rw [Nat.zero_add] at hh
      exact (World.frozen?_of_block (w := W) hjb).trans hh
    have z5 := hz 5 (by decide)
    have z6 := hz 6 (by decide)
    have e5 := hc5.2.2.1
    have e6 := hc5.2.2.2
    clear hz hjb hjj hc5 hc6 f5 b5
    go_wp2
    go_ret
    refine ⟨F', en', 0, w5, HH.out.2.2, rfl, ?_, hbut.out, by rw [if_pos rfl]; rfl⟩
    have st := fun (w : World) (hw : FlashAt w J.g J.bb J.wb F') (j : Nat) (v : Value) => FlashAt.aside hw J.jb j v HH.out.2.1.1 HH.out.2.1.2.1 HH.out.2.1.2.2
    exact st _ (st _ H5.out _ _) _ _
  · have q0 : (ec != 0) = true := bne_iff_ne.2 he
    clear hjj hc5 hc6 f5 b5
    go_wp2
    go_ret
    exact ⟨F', en', ec, w5, HH.out.2.2, rfl, H5.out, hbut.out, by rw [if_neg he]⟩
end Go.Proofs.Ytpdlipkmojhnnaa
