/-
  JournalMoves: the epoch rises just when a record does not fit behind the others.
-/
import Derived.Test.YtiieianbmldnbaaJournalSmall
import Derived.Test.YtiieianbmldnbaaSame
import Derived.Test.YtiieianbmldnbaaJournalBut
namespace Go.Proofs.Ytiieianbmldnbaa
open Go.RowKit Go.Maps Go.Shelf
set_option maxRecDepth 100000
set_option linter.unusedVariables false
set_option maxRecDepth 100000
def needOf (ps : List (Int × List UInt8)) : Nat := 8 + (ps.map fun x => 7 + x.2.length).sum
theorem need_prs (V : Int → Option (List UInt8)) : needOf (prsOf V) = sizeAll V := by
  unfold needOf sizeAll prsOf
  congr 1
  induction keysOf V with
  | nil => rfl
  | cons k r ih =>
    have e2 : sumOn V (fun _ => true) (k :: r) = (7 + ((V k).getD []).length) + sumOn V (fun _ => true) r := rfl
    rw [e2, ← ih]; rfl
theorem need_f (w : World) (A : Option Addr) (n c : Nat) (ps : List (Int × List UInt8)) (h : Prs w w.heap.size A n ps) (hn : n ≤ 32) (hl : ∀ x, x ∈ ps → x.2.length ≤ 250) :
    Calls Try.prog 28 #[.slice A n c] w fun e w' => e = .returned (.int .i64 (needOf ps : Int)) ∧ Below w.heap.size w w' := by
  go_enter Try.func28, Try.ntmps28
  go_wp2
  go_loopw [3, 4] (fun v i wr => ∃ k t : Nat, k ≤ n ∧ i = .int .i64 k ∧ v = .int .i64 (t : Int) ∧ Hid (t = needOf (ps.take k)) ∧ t ≤ 8 + 257 * k ∧ Below w.heap.size w wr) (fun _ i _ => n - (intOf i).toNat)
  case atStart => exact ⟨0, 8, by omega, rfl, rfl, rfl, by omega, Below.refl _ _⟩
  case round =>
    obtain ⟨k, t, hk, rfl, rfl, ht, htb, hB⟩ := hrel
    by_cases hlt : k < n
    · obtain ⟨x, hx⟩ : ∃ x, ps[k]? = some x := ⟨_, List.getElem?_eq_getElem (by have := h.len; omega)⟩
      obtain ⟨b, off, rfl, hb, hc⟩ := h.place (by omega)
      obtain ⟨A', c', _, h2, _⟩ := hc k x hx
      have h2' : wr.cell? ⟨b, off + k * 2 + 1, none⟩ = some (.slice A' x.2.length c') := by
        rw [Nat.mul_comm k 2]
        exact (hB.cell (p := ⟨b, off + 2 * k + 1, none⟩) hb).trans h2
      have hlx := hl x (List.mem_of_getElem? hx)
      have HT : Hid (needOf (ps.take (k + 1)) = needOf (ps.take k) + 7 + x.2.length) := by
        show needOf _ = _
        unfold needOf
        rw [List.take_add_one, hx]
        simp; omega
      have hkn : (k : Int) < n := by omega
      have e1 : IntKind.i64.wrap ((t : Int) + 7) = (t : Int) + 7 := by rw [IntKind.wrap_i64]; omega
      have e2 : IntKind.i64.wrap ((t : Int) + 7 + (x.2.length : Int)) = (t : Int) + 7 + (x.2.length : Int) := by rw [IntKind.wrap_i64]; omega
      clear hc h2 hx
      generalize x.2.length = lx at *
      go_wp2
      go_roundw
      case rel => exact ⟨k + 1, t + 7 + lx, by omega, by go_num, by go_num, by show t + 7 + lx = _; rw [HT.out, ht.out], by omega, hB⟩
      case measure => simp [intOf]; omega
    · obtain rfl : k = n := by omega
      have ht2 : t = needOf ps := by rw [ht.out, List.take_of_length_le (by have := h.len; omega)]
      have HT := Lib.hid ht2
      clear ht ht2
      go_wp2
      go_ret
      exact ⟨by rw [HT.out]; rfl, hB⟩
theorem i64_wf {n : Int} (h : I64 n) : (Lit.int .i64 n).wf = true := by
  have h' : -9223372036854775808 ≤ n ∧ n ≤ 9223372036854775807 := h
  simp [Lit.wf, IntKind.min, IntKind.max, IntKind.signed, IntKind.bits]
  exact h'
theorem bs_move {w w' : World} {B n : Nat} {A : Option Addr} {l : List UInt8} (h : Bs w B A n l) (hs : w.heap.size ≤ w'.heap.size) (hk : ∀ a, A = some a → a.block < w.heap.size → ∀ off, w'.cell? ⟨a.block, off, none⟩ = w.cell? ⟨a.block, off, none⟩) : Bs w' w'.heap.size A n l :=
  ⟨h.len, fun hn => by
    obtain ⟨b, off, e, hb, hc⟩ := h.place hn
    have hlt : b < w.heap.size := by
      have hl := h.len
      obtain ⟨u, hu⟩ := byte_get (l := l) (k := 0) (by omega)
      exact World.block_lt_of_cell? _ _ (hc 0 u hu)
    exact ⟨b, off, e, Nat.lt_of_lt_of_le hlt hs, fun k u hu => (hk _ e hlt (off + k)).trans (hc k u hu)⟩⟩
/-- A step's copy. -/
structure OpC (W : World) (n : Nat) (o : Opj) : Prop where
  c0 : W.cell? ⟨n, 0, none⟩ = some (.int .i64 o.k)
  c1 : W.cell? ⟨n, 1, none⟩ = some (.int .i64 o.a)
  c2 : W.cell? ⟨n, 2, none⟩ = some (.slice o.A o.n o.c)
  lt : n < W.heap.size
theorem OpC.new_ (W : World) (t : TypeId) (o : Opj) : OpC (W.alloc (.cells #[.int .i64 o.k, .int .i64 o.a, .slice o.A o.n o.c] t)) W.heap.size o := by
  have hc : ∀ j, (W.alloc (.cells #[.int .i64 o.k, .int .i64 o.a, .slice o.A o.n o.c] t)).cell? ⟨W.heap.size, j, none⟩ = (#[Value.int .i64 o.k, .int .i64 o.a, .slice o.A o.n o.c] : Array Value)[j]? := fun j => cell_of_row _ _ _ _ _ _ (heap_alloc_new W _)
  exact ⟨hc 0, hc 1, hc 2, by rw [alloc_size]; omega⟩
theorem OpC.at_ {W w' : World} {n : Nat} {o : Opj} (h : OpC W n o) (hk : ∀ p : Addr, p.block = n → w'.cell? p = W.cell? p) (hs : W.heap.size ≤ w'.heap.size) : OpC w' n o :=
  ⟨(hk _ rfl).trans h.c0, (hk _ rfl).trans h.c1, (hk _ rfl).trans h.c2, Nat.lt_of_lt_of_le h.lt hs⟩
theorem OpC.below {W w' : World} {n : Nat} {o : Opj} (h : OpC W n o) (hb : Below W.heap.size W w') : OpC w' n o := h.at_ (fun p hp => hb.cell (by rw [hp]; exact h.lt)) hb.size
set_option maxHeartbeats 40000000 in
theorem moves_law (sz : Int) (A : Option Addr) (m c : Nat) (os : List Opj) (w : World) (hO : Opjs w w.heap.size A m os) (hm : m ≤ maxLen) :
    Calls Try.prog 6 #[.int .i64 sz, .slice A m c] w fun e w' => e = .returned (.bool true) ∧ Below w.heap.size w w' := by
  go_enter Try.func6, Try.ntmps6
  go_wp2_with fail
  refine (alive5 w).mono ?_
  rintro e w1 ⟨rfl, b1⟩
  have O1 := hO.below b1 (Nat.le_refl _)
  have H1 : Aside _ := And.intro b1 O1
  clear hO b1 O1
  by_cases hs : (128 : Int) < sz
  · go_wp2
    go_ret
    exact ⟨rfl, H1.out.1⟩
  go_wp2_with fail
  have ks := small5 A m c os w1 ⟨H1.out.2.len, fun h => by
    obtain ⟨b, off, e, hb, hc⟩ := H1.out.2.place h
    exact ⟨b, off, e, Nat.lt_of_lt_of_le hb H1.out.1.size, fun i s hs => by
      have := hc i s hs
      exact ⟨this.c0, this.c1, this.c2, this.bs.more H1.out.1.size, this.cap, this.max, this.ik, this.ia⟩⟩⟩ hm
  refine ks.mono ?_
  rintro e w2 ⟨b, rfl, b2, hb⟩
  have B2 : Aside (Below w.heap.size w w2) := H1.out.1.trans (b2.mono H1.out.1.size)
  cases b with
  | false =>
    clear ks b2 hb
    go_wp2
    go_ret
    exact ⟨rfl, B2.out⟩
  | true =>
    have HB : Aside _ := hb rfl
    obtain ⟨mm, hmm⟩ : ∃ mm : Nat, min (max sz 16) 4096 = (mm : Int) := ⟨(min (max sz 16) 4096).toNat, by omega⟩
    have hm1 : 16 ≤ mm ∧ mm ≤ 128 := by omega
    have kg := groups_f w2 sz mm hmm
    clear ks b2 hb hmm
    go_wp2_with fail
    refine kg.mono ?_
    rintro e w3 ⟨g, bb, wb, pa, pb, rfl, hq, b3, hg, hbb, hwb, hpa, hpb⟩
    have ko := jopen_f w3 (QG g bb wb pa pb mm) (fresh 4 mm) hq (by show ((min (2 * mm) (2 * mm) : Nat) : Int) ≤ 65536; omega)
    have H3 : Aside _ := And.intro hq (And.intro b3 (And.intro hg (And.intro hbb (And.intro hwb (And.intro hpa hpb)))))
    clear kg hq b3 hg hbb hwb hpa hpb
    go_wp2_with fail
    refine ko.mono ?_
    intro e w4 hp
    obtain ⟨rfl, G, hj, hl, hbel⟩ := open_fresh hm1.1 (by omega) H3.out.1 hp
    have H4 : Aside _ := And.intro hj (And.intro hl hbel)
    clear ko hp hj hl hbel
    obtain ⟨J, hJ⟩ : ∃ J, (QG g bb wb pa pb mm).at_ w3.heap.size = J := ⟨_, rfl⟩
    have HJ : Aside (J.jb = w3.heap.size ∧ J.g = g ∧ J.bb = bb ∧ J.wb = wb ∧ J.pp 0 = pa ∧ J.be 0 = 0) := by rw [← hJ]; exact ⟨rfl, rfl, rfl, rfl, rfl, rfl⟩
    have HSI : Aside (J.si 0 = 2 * mm) := by rw [← hJ]; exact rfl
    have h0 := H4.out.1
    rw [hJ] at h0
    have ht0 : Tail G J (SF mm) := by
      have := H4.out.2.1.rest
      rw [sizeAll_noV] at this
      show Blk G (J.be 0 + 8) (J.be 0 + 2 * mm)
      rw [HJ.out.2.2.2.2.2]; exact this
    have hb4 : Below w.heap.size w w4 := B2.out.trans ((H3.out.2.1.trans (H4.out.2.2 w2.heap.size H3.out.2.1.size H3.out.2.2.1 H3.out.2.2.2.1 H3.out.2.2.2.2.1)).mono B2.out.size)
    have hlen := Lib.hid H1.out.2.len
    have hmi : (m : Int) ≤ 40 := by have := HB.out.1; omega
    go_wp2
    go_loopw [42] (fun i wr => ∃ k : Nat, k ≤ m ∧ i = .int .i64 k ∧ ∃ F s, JAt wr J F s ∧ On F ∧ Tail F J s ∧ s.size = 2 * mm ∧ Below w.heap.size w wr) (fun i _ => m - (intOf i).toNat)
    case atStart => exact ⟨0, by omega, rfl, G, SF mm, h0, H4.out.2.1.on, ht0, rfl, hb4⟩
    case round =>
      clear h0 ht0 hb4 hJ
      obtain ⟨k, hk, rfl, F, s, hj, hon, ht, hsz, hB⟩ := hrel
      by_cases hlt : k < m
      · obtain ⟨b, off, rfl, hb, hc⟩ := H1.out.2.place (by omega)
        obtain ⟨o, ho⟩ := opj_get (os := os) (k := k) (by rw [hlen.out]; omega)
        have hop := (hc k o ho).keep hb (fun p hp => by
          have hb1 := H1.out.1
          exact (hB.cell hp).trans (hb1.cell hp).symm)
        have hn300 := HB.out.2 k o ho
        have hr := hop.range
        have HR : Aside _ := And.intro hj (And.intro hon (And.intro ht (And.intro hsz (And.intro hB hop))))
        clear hc ho hj hon ht hsz hB hop
        go_wp2_with (first
          | (refine wpList_load_mid rfl 37 (.tmp 44) rfl b (off + k * 3) rfl [.int .i64 o.k, .int .i64 o.a, .slice o.A o.n o.c] _ hr Try.underlying37 rfl size_opj ?_)
          | fail)
        have hjb := HJ.out.1
        refine calls_at_world (F := fun W => Below wr.heap.size wr W ∧ OpC W wr.heap.size o) ⟨alloc_below wr _, OpC.new_ wr _ o⟩ fun w5 ⟨b5, p5⟩ => ?_
        have hj5 := HR.out.1.below b5
        have kr := room_f w5 J F s hj5
        rw [hjb] at kr
        obtain ⟨rm, hrm⟩ : ∃ rm : Int, (s.size : Int) - (s.en : Int) = rm := ⟨_, rfl⟩
        rw [hrm] at kr
        have H5 : Aside _ := And.intro hj5 (And.intro p5 (And.intro hrm b5))
        obtain ⟨N, hN⟩ : ∃ N, wr.heap.size = N := ⟨_, rfl⟩
        have HN : Aside _ := hN
        rw [hN] at p5 ⊢
        clear hj5 b5 p5 hrm hr hN
        refine kr.mono ?_
        rintro e w6 ⟨rfl, b6⟩
        have hj6 := H5.out.1.below b6
        have ke := epoch_f w6 J F s hj6
        rw [hjb] at ke
        have p6 := H5.out.2.1.below b6
        rw [HN.out] at p6
        have H6 : Aside _ := And.intro hj6 (And.intro p6 b6)
        have q0 := p6.c0
        have q1 := p6.c1
        have q2 := p6.c2
        clear kr hj6 p6 b6
        go_wp2_with fail
        refine ke.mono ?_
        rintro e w7 ⟨rfl, hw⟩
        obtain rfl := hw.symm
        clear ke
        go_wp2_with fail
        have kg := jget_f J.jb J.lo s.pv s.D s.V o.a w6 H6.out.1.c6 H6.out.1.vals (i64_wf HR.out.2.2.2.2.2.ia)
        rw [hjb] at kg
        refine kg.mono ?_
        rintro e w7 ⟨vg, rfl, hog, b7⟩
        clear kg q0 q1 q2
        obtain ⟨ln, hln⟩ : ∃ ln, ((s.V o.a).getD []).length = ln := ⟨_, rfl⟩
        rw [hln] at hog
        obtain ⟨Ag, cg, rfl, hcg, hbg⟩ := Bs.of_own hog
        have hge : Aside (∀ a : Addr, Ag = some a → w6.heap.size ≤ a.block) := fun a ha => own_ge hog a.block (by rw [ha]; rfl)
        have hln2 : (ln : Int) ≤ 250 := by
          cases hv : s.V o.a with
          | none => rw [hv] at hln; rw [← hln]; decide
          | some l1 => rw [hv] at hln; have := HR.out.1.vals.short _ _ hv; rw [← hln]; show ((l1.length : Nat) : Int) ≤ 250; omega
        have p7 := H6.out.2.1.below b7
        have H7 : Aside _ := And.intro (H6.out.1.below b7) (And.intro p7 (And.intro hbg b7))
        have q0 := p7.c0
        have q1 := p7.c1
        have q2 := p7.c2
        have hB7 : Aside (Below w.heap.size w w7) := by
          have a1 := HR.out.2.2.2.2.1
          have a2 := a1.trans (H5.out.2.2.2.mono a1.size)
          have a3 := a2.trans (H6.out.2.2.mono a2.size)
          exact a3.trans (b7.mono a3.size)
        have HLN : Aside _ := hln
        have hik := HR.out.2.2.2.2.2.ik
        obtain ⟨isg, hisg⟩ : ∃ isg, (s.V o.a).isSome = isg := ⟨_, rfl⟩
        rw [hisg]
        have HIS : Aside _ := hisg
        clear hog hbg b7 p7 hln hisg
        by_cases hkind : o.k = 0 ∨ o.k = 1
        · have hB57 : Below wr.heap.size wr w7 := H5.out.2.2.2.trans (((H6.out.2.2.trans (H7.out.2.2.2.mono H6.out.2.2.size))).mono H5.out.2.2.2.size)
          have hbv : Bs w7 w7.heap.size o.A o.n o.l := (HR.out.2.2.2.2.2.bs.below' hB57 (HR.out.2.2.2.2.1.size)).more hB7.out.size
          have kp := put_f w7 J F s H7.out.1 o.a HR.out.2.2.2.2.2.ia.1 HR.out.2.2.2.2.2.ia.2 o.A o.n o.c o.l hbv
          rw [hjb] at kp
          have HV : Aside _ := hbv
          clear hbv hB57
          rcases hkind with hk0 | hk1
          · have k0 : (o.k != 0) = false := bne_eq_false_iff_eq.2 hk0
            clear hk0
            go_wp2_with fail
            refine kp.mono ?_
            intro e w8 hp
            clear kp
            have hbt := hp.but4
            obtain ⟨_, hO⟩ := put_on H7.out.1 HR.out.2.1 HR.out.2.2.1 hp
            have hlov : o.l.length = o.n := HV.out.len
            have hNb : N = wr.heap.size := HN.out.symm
            have hjlt : J.jb < wr.heap.size ∧ J.g < wr.heap.size ∧ J.bb < wr.heap.size ∧ J.wb < wr.heap.size := by
              have a := HR.out.1.fl.lt
              exact ⟨World.block_lt_of_cell? _ _ HR.out.1.c2, a.1, a.2.1, a.2.2⟩
            have hs67 : wr.heap.size ≤ w6.heap.size ∧ w6.heap.size ≤ w7.heap.size := ⟨Nat.le_trans H5.out.2.2.2.size H6.out.2.2.size, H7.out.2.2.2.size⟩
            have hlow : w.heap.size ≤ J.jb ∧ w.heap.size ≤ J.g ∧ w.heap.size ≤ J.bb ∧ w.heap.size ≤ J.wb := by
              obtain ⟨h1, h2, h3, h4, _⟩ := HJ.out
              obtain ⟨_, a1, a2, a3, a4, _⟩ := H3.out
              have := B2.out.size
              have := a1.size
              exact ⟨by omega, by omega, by omega, by omega⟩
            have p8 : OpC w8 N o := H7.out.2.1.at_ (fun p hpb => hbt.cell (by rw [hpb]; exact H7.out.2.1.lt) (by omega) (by omega) (by omega) (by omega)) hbt.size
            have hwas : Aside (Bs w8 w8.heap.size Ag ln ((s.V o.a).getD [])) := bs_move H7.out.2.2.1 hbt.size (fun a ha hal off => hbt.cell (p := ⟨a.block, off, none⟩) hal (by have := hge.out a ha; show a.block ≠ _; omega) (by have := hge.out a ha; show a.block ≠ _; omega) (by have := hge.out a ha; show a.block ≠ _; omega) (by have := hge.out a ha; show a.block ≠ _; omega))
            have hB8 : Aside (Below w.heap.size w w8) := hB7.out.trans (hbt.below hB7.out.size hlow.1 hlow.2.1 hlow.2.2.1 hlow.2.2.2)
            have hval : Aside (Bs w8 w8.heap.size o.A o.n o.l) := by
              have x1 := H5.out.2.2.2.trans ((H6.out.2.2.trans (H7.out.2.2.2.mono H6.out.2.2.size)).mono H5.out.2.2.2.size)
              have x2 := HR.out.2.2.2.2.1.size
              have x3 := hbt.below hB7.out.size hlow.1 hlow.2.1 hlow.2.2.1 hlow.2.2.2
              exact ((HR.out.2.2.2.2.2.bs.below' x1 x2).below x3).more hB8.out.size
            have P8 : Aside _ := p8
            have r0 := p8.c0
            have r1 := p8.c1
            have r2 := p8.c2
            have HLO : Aside _ := hlow
            have hen := HR.out.1.en
            have hep4 := HR.out.1.ep
            have hszm := HR.out.2.2.2.1
            clear hp hbt hNb hjlt hs67 p8 hlow q0 q1 q2
            rcases hO with ⟨ec, rfl, hec, hb8, _⟩ | ⟨_, hlen250, rfl, hvk, hb8⟩ | ⟨hkr, hlen250, rfl, hvk, _, hst⟩
            · have qe : (ec != 0) = true := bne_iff_ne.2 hec
              have HB8 : Aside _ := hb8
              clear hec hb8 r0 r1 r2
              have kr := room_f w8 J F s (H7.out.1.below HB8.out)
              rw [hjb] at kr
              rw [H5.out.2.2.1] at kr
              go_wp2_with fail
              refine kr.mono ?_
              rintro e w9 ⟨rfl, c9⟩
              have K9 : Aside _ := And.intro ((H7.out.1.below HB8.out).below c9) c9
              have ke := epoch_f w9 J F s K9.out.1
              rw [hjb] at ke
              skip
              clear kr c9
              go_wp2_with fail
              refine ke.mono ?_
              rintro e w10 ⟨rfl, hw⟩
              obtain rfl := hw.symm
              clear ke
              go_wp2
              go_roundw
              case rel => exact ⟨k + 1, by omega, by go_num, F, s, K9.out.1, HR.out.2.1, HR.out.2.2.1, HR.out.2.2.2.1, (hB8.out).trans (K9.out.2.mono (hB8.out).size)⟩
              case measure => simp [intOf]; omega

            · have hgl : (s.V o.a).getD [] = o.l := by rw [hvk]; rfl
              have his : isg = true := by rw [← HIS.out, hvk]; rfl
              subst his
              have hlo : o.n ≤ 250 := by omega
              have e7 : IntKind.i64.wrap ((o.n : Int) + 7) = (o.n : Int) + 7 := by rw [IntKind.wrap_i64]; omega
              have ksm := same_any Ag o.A ln cg o.n o.c _ _ w8 _ _ hwas.out hval.out (by omega) (by omega)
              rw [hgl, decide_eq_true rfl] at ksm
              have HB8 : Aside _ := hb8
              clear hgl hb8 hvk
              go_wp2_with fail
              refine ksm.mono ?_
              rintro e w9 ⟨rfl, m9, hw9⟩
              have c9 : Below w8.heap.size w8 w9 := hw9 ▸ drewN_below w8 _ m9
              have J9 : Aside (JAt w9 J F s) := (H7.out.1.below HB8.out).below c9
              have hB9 : Aside (Below w.heap.size w w9) := hB8.out.trans (c9.mono hB8.out.size)
              clear ksm hw9 c9 r0 r1 r2
              have kr := room_f w9 J F s (J9.out)
              rw [hjb] at kr
              rw [H5.out.2.2.1] at kr
              go_wp2_with fail
              refine kr.mono ?_
              rintro e w10 ⟨rfl, c9⟩
              have K9 : Aside _ := And.intro ((J9.out).below c9) c9
              have ke := epoch_f w10 J F s K9.out.1
              rw [hjb] at ke
              skip
              clear kr c9
              go_wp2_with fail
              refine ke.mono ?_
              rintro e w11 ⟨rfl, hw⟩
              obtain rfl := hw.symm
              clear ke
              go_wp2
              go_roundw
              case rel => exact ⟨k + 1, by omega, by go_num, F, s, K9.out.1, HR.out.2.1, HR.out.2.2.1, HR.out.2.2.2.1, (hB9.out).trans (K9.out.2.mono (hB9.out).size)⟩
              case measure => simp [intOf]; omega

            · obtain ⟨G, s', hj', hon', htl', hsz', hV', hlG, hcase⟩ := hst.tail H7.out.1 HR.out.2.2.1
              rw [seals_len] at hcase
              have hlo : o.n ≤ 250 := by omega
              have e7 : IntKind.i64.wrap ((o.n : Int) + 7) = (o.n : Int) + 7 := by rw [IntKind.wrap_i64]; omega
              have HC : Aside _ := And.intro hon' (And.intro htl' (And.intro (hsz'.trans HR.out.2.2.2.1) hV'))
              have HJ8 : Aside _ := hj'
              have hne : (s.V o.a).getD [] ≠ o.l ∨ isg = false := by
                cases hv : s.V o.a with
                | none => right; rw [← HIS.out, hv]; rfl
                | some l1 => left; intro e; exact hvk (by rw [hv, ← e]; rfl)
              have HNE : Aside _ := hne
              have hrm := H5.out.2.2.1
              have HCS : Aside _ := hcase
              have hV3 := hV'
              clear hst hj' hon' htl' hvk hne hlG hcase hV'
              -- the test of what was there
              suffices htest : True by
                cases isg with
                | true =>
                  have hn2 : (s.V o.a).getD [] ≠ o.l := by
                    rcases HNE.out with h | h
                    · exact h
                    · cases h
                  have ksm := same_any Ag o.A ln cg o.n o.c _ _ w8 _ _ hwas.out hval.out (by omega) (by omega)
                  rw [decide_eq_false hn2] at ksm
                  clear hn2
                  by_cases hfit : (o.n : Int) + 7 ≤ rm
                  · have hcs : s'.cnt = s.cnt ∧ s'.ep = s.ep ∧ s'.en = s.en + (o.l.length + 6) + 1 := by
                      rcases HCS.out with ⟨_, h1, h2, h3, _⟩ | ⟨h, _⟩
                      · exact ⟨h1, h2, h3⟩
                      · omega
                    have HX : Aside _ := hcs
                    have hroom : (s'.size : Int) - (s'.en : Int) = rm - ((o.n : Int) + 7) := by rw [hcs.2.2, HC.out.2.2.1]; omega
                    have e8 : IntKind.i64.wrap (rm - ((o.n : Int) + 7)) = rm - ((o.n : Int) + 7) := by rw [IntKind.wrap_i64]; omega
                    have hge0 : 0 ≤ rm := by omega
                    have HRO : Aside _ := hroom
                    clear hcs hroom
                    go_wp2_with fail

                    refine ksm.mono ?_
                    rintro e w9 ⟨rfl, m9, hw9⟩
                    have c9 : Below w8.heap.size w8 w9 := hw9 ▸ drewN_below w8 _ m9
                    have J9 : Aside (JAt w9 J G s') := HJ8.out.below c9
                    have hB9 : Aside (Below w.heap.size w w9) := hB8.out.trans (c9.mono hB8.out.size)
                    have P9 : OpC w9 N o := P8.out.below c9
                    have r0 := P9.c0
                    have r1 := P9.c1
                    have r2 := P9.c2
                    clear ksm hw9 c9 P9
                    have kr := room_f w9 J G s' (J9.out)
                    rw [hjb] at kr
                    rw [HRO.out] at kr
                    go_wp2_with fail
                    refine kr.mono ?_
                    rintro e w10 ⟨rfl, c9⟩
                    have K9 : Aside _ := And.intro ((J9.out).below c9) c9
                    have ke := epoch_f w10 J G s' K9.out.1
                    rw [hjb] at ke
                    rw [HX.out.2.1] at ke
                    clear kr c9
                    go_wp2_with fail
                    refine ke.mono ?_
                    rintro e w11 ⟨rfl, hw⟩
                    obtain rfl := hw.symm
                    clear ke
                    go_wp2
                    go_roundw
                    case rel => exact ⟨k + 1, by omega, by go_num, G, s', K9.out.1, HC.out.1, HC.out.2.1, HC.out.2.2.1, (hB9.out).trans (K9.out.2.mono (hB9.out).size)⟩
                    case measure => simp [intOf]; omega
                  · have hcs : s'.ep = s.ep + 1 ∧ s'.en = sizeAll s'.V := by
                      rcases HCS.out with ⟨h, _⟩ | ⟨_, _, h2, h3, _⟩
                      · omega
                      · exact ⟨h2, by rw [h3, HC.out.2.2.2]⟩
                    have he9 := HJ8.out.ep
                    have e9 : IntKind.u32.wrap (s.ep + 1) = s.ep + 1 := by rw [IntKind.wrap_u32]; omega
                    obtain ⟨sv, hsv⟩ : ∃ sv, sizeAll s'.V = sv := ⟨_, rfl⟩
                    have hen' := HJ8.out.en
                    rw [hsv] at hcs
                    obtain ⟨M2, hM2⟩ : ∃ M2, 2 * mm = M2 := ⟨_, rfl⟩
                    have HM : Aside _ := hM2
                    have e10 : IntKind.i64.wrap ((M2 : Int) - (sv : Int)) = (M2 : Int) - (sv : Int) := by rw [IntKind.wrap_i64]; omega
                    have e11 : (((M2 : Int) - (sv : Int)) != ((M2 : Int) - (sv : Int))) = false := bne_self_eq_false _
                    have HX : Aside _ := And.intro hcs hsv
                    clear hcs he9 hsv hen' hM2
                    go_wp2_with fail

                    refine ksm.mono ?_
                    rintro e w9 ⟨rfl, m9, hw9⟩
                    have c9 : Below w8.heap.size w8 w9 := hw9 ▸ drewN_below w8 _ m9
                    have J9 : Aside (JAt w9 J G s') := HJ8.out.below c9
                    have hB9 : Aside (Below w.heap.size w w9) := hB8.out.trans (c9.mono hB8.out.size)
                    have P9 : OpC w9 N o := P8.out.below c9
                    have r0 := P9.c0
                    have r1 := P9.c1
                    have r2 := P9.c2
                    clear ksm hw9 c9 P9
                    go_wp2_with fail
                    have ke := epoch_f w9 J G s' (J9.out)
                    rw [hjb, HX.out.1.1] at ke
                    refine ke.mono ?_
                    rintro e w10 ⟨rfl, hw⟩
                    obtain rfl := hw.symm
                    clear ke
                    go_wp2_with fail
                    have kr := room_f w9 J G s' (J9.out)
                    rw [hjb, HC.out.2.2.1, HX.out.1.2, HM.out] at kr
                    refine kr.mono ?_
                    rintro e w11 ⟨rfl, c11⟩
                    have K11 : Aside _ := And.intro ((J9.out).below c11) c11
                    clear kr c11
                    go_wp2_with fail
                    have kz := psize_f w11 (J.pp 0) J.g (J.fi 0) (J.co 0) (J.be 0) (J.si 0) (K11.out.1.part 0 (by omega))
                    rw [HJ.out.2.2.2.2.1, HSI.out, HM.out] at kz
                    refine kz.mono ?_
                    rintro e w12 ⟨rfl, hw⟩
                    obtain rfl := hw.symm
                    clear kz
                    go_wp2_with fail
                    have kp := pairs_f w11 J G s' K11.out.1
                    rw [hjb] at kp
                    refine kp.mono ?_
                    rintro e w13 ⟨v13, rfl, ho13, c13⟩
                    clear kp
                    have hprs := ho13.prs
                    obtain ⟨np, hnp⟩ : ∃ np, (prsOf s'.V).length = np := ⟨_, rfl⟩
                    rw [hnp] at hprs
                    have hnp32 : np ≤ 32 := by rw [← hnp]; unfold prsOf; rw [List.length_map]; exact keysOf_length _
                    obtain ⟨A13, cc13, rfl, _, hp13⟩ := hprs
                    have K13 : Aside _ := And.intro (K11.out.1.below c13) c13
                    clear ho13 c13 hnp
                    go_wp2_with fail
                    have kn := need_f w13 A13 np cc13 _ hp13 hnp32 (fun x hx => by
                      unfold prsOf at hx
                      obtain ⟨kx, hkx, rfl⟩ := List.mem_map.1 hx
                      cases hv : s'.V kx with
                      | none => show ((none : Option (List UInt8)).getD []).length ≤ 250; decide
                      | some l1 => exact K13.out.1.vals.short _ _ hv)
                    rw [need_prs, HX.out.2] at kn
                    refine kn.mono ?_
                    rintro e w14 ⟨rfl, c14⟩
                    have J14 : Aside _ := K13.out.1.below c14
                    have hB14 : Aside (Below w.heap.size w w14) := by
                      have a1 := hB9.out
                      have a2 := a1.trans (K11.out.2.mono a1.size)
                      have a3 := a2.trans (K13.out.2.mono a2.size)
                      exact a3.trans (c14.mono a3.size)
                    have hRel : ∃ k_1 : Nat, k_1 ≤ m ∧ Value.int IntKind.i64 ((k : Int) + 1) = Value.int IntKind.i64 (k_1 : Int) ∧ ∃ F s, JAt w14 J F s ∧ On F ∧ Tail F J s ∧ s.size = 2 * mm ∧ Below w.heap.size w w14 := ⟨k + 1, by omega, by go_num, G, s', J14.out, HC.out.1, HC.out.2.1, HC.out.2.2.1, hB14.out⟩
                    have hMea : m - (intOf (Value.int IntKind.i64 ((k : Int) + 1))).toNat < m - (intOf (Value.int IntKind.i64 (k : Int))).toNat := by simp [intOf]; omega
                    have HRM : Aside _ := And.intro hRel hMea
                    clear kn c14 hp13 hRel hMea
                    go_wp2
                    all_goals exact HRM.out
                | false =>
                  by_cases hfit : (o.n : Int) + 7 ≤ rm
                  · have hcs : s'.cnt = s.cnt ∧ s'.ep = s.ep ∧ s'.en = s.en + (o.l.length + 6) + 1 := by
                      rcases HCS.out with ⟨_, h1, h2, h3, _⟩ | ⟨h, _⟩
                      · exact ⟨h1, h2, h3⟩
                      · omega
                    have HX : Aside _ := hcs
                    have hroom : (s'.size : Int) - (s'.en : Int) = rm - ((o.n : Int) + 7) := by rw [hcs.2.2, HC.out.2.2.1]; omega
                    have e8 : IntKind.i64.wrap (rm - ((o.n : Int) + 7)) = rm - ((o.n : Int) + 7) := by rw [IntKind.wrap_i64]; omega
                    have hge0 : 0 ≤ rm := by omega
                    have HRO : Aside _ := hroom
                    clear hcs hroom
                    go_wp2_with fail
                    have kr := room_f w8 J G s' (HJ8.out)
                    rw [hjb] at kr
                    rw [HRO.out] at kr
                    refine kr.mono ?_
                    rintro e w10 ⟨rfl, c9⟩
                    have K9 : Aside _ := And.intro ((HJ8.out).below c9) c9
                    have ke := epoch_f w10 J G s' K9.out.1
                    rw [hjb] at ke
                    rw [HX.out.2.1] at ke
                    clear kr c9
                    go_wp2_with fail
                    refine ke.mono ?_
                    rintro e w11 ⟨rfl, hw⟩
                    obtain rfl := hw.symm
                    clear ke
                    go_wp2
                    go_roundw
                    case rel => exact ⟨k + 1, by omega, by go_num, G, s', K9.out.1, HC.out.1, HC.out.2.1, HC.out.2.2.1, (hB8.out).trans (K9.out.2.mono (hB8.out).size)⟩
                    case measure => simp [intOf]; omega
                  · have hcs : s'.ep = s.ep + 1 ∧ s'.en = sizeAll s'.V := by
                      rcases HCS.out with ⟨h, _⟩ | ⟨_, _, h2, h3, _⟩
                      · omega
                      · exact ⟨h2, by rw [h3, HC.out.2.2.2]⟩
                    have he9 := HJ8.out.ep
                    have e9 : IntKind.u32.wrap (s.ep + 1) = s.ep + 1 := by rw [IntKind.wrap_u32]; omega
                    obtain ⟨sv, hsv⟩ : ∃ sv, sizeAll s'.V = sv := ⟨_, rfl⟩
                    have hen' := HJ8.out.en
                    rw [hsv] at hcs
                    obtain ⟨M2, hM2⟩ : ∃ M2, 2 * mm = M2 := ⟨_, rfl⟩
                    have HM : Aside _ := hM2
                    have e10 : IntKind.i64.wrap ((M2 : Int) - (sv : Int)) = (M2 : Int) - (sv : Int) := by rw [IntKind.wrap_i64]; omega
                    have e11 : (((M2 : Int) - (sv : Int)) != ((M2 : Int) - (sv : Int))) = false := bne_self_eq_false _
                    have HX : Aside _ := And.intro hcs hsv
                    clear hcs he9 hsv hen' hM2
                    go_wp2_with fail
                    have ke := epoch_f w8 J G s' (HJ8.out)
                    rw [hjb, HX.out.1.1] at ke
                    refine ke.mono ?_
                    rintro e w10 ⟨rfl, hw⟩
                    obtain rfl := hw.symm
                    clear ke
                    go_wp2_with fail
                    have kr := room_f w8 J G s' (HJ8.out)
                    rw [hjb, HC.out.2.2.1, HX.out.1.2, HM.out] at kr
                    refine kr.mono ?_
                    rintro e w11 ⟨rfl, c11⟩
                    have K11 : Aside _ := And.intro ((HJ8.out).below c11) c11
                    clear kr c11
                    go_wp2_with fail
                    have kz := psize_f w11 (J.pp 0) J.g (J.fi 0) (J.co 0) (J.be 0) (J.si 0) (K11.out.1.part 0 (by omega))
                    rw [HJ.out.2.2.2.2.1, HSI.out, HM.out] at kz
                    refine kz.mono ?_
                    rintro e w12 ⟨rfl, hw⟩
                    obtain rfl := hw.symm
                    clear kz
                    go_wp2_with fail
                    have kp := pairs_f w11 J G s' K11.out.1
                    rw [hjb] at kp
                    refine kp.mono ?_
                    rintro e w13 ⟨v13, rfl, ho13, c13⟩
                    clear kp
                    have hprs := ho13.prs
                    obtain ⟨np, hnp⟩ : ∃ np, (prsOf s'.V).length = np := ⟨_, rfl⟩
                    rw [hnp] at hprs
                    have hnp32 : np ≤ 32 := by rw [← hnp]; unfold prsOf; rw [List.length_map]; exact keysOf_length _
                    obtain ⟨A13, cc13, rfl, _, hp13⟩ := hprs
                    have K13 : Aside _ := And.intro (K11.out.1.below c13) c13
                    clear ho13 c13 hnp
                    go_wp2_with fail
                    have kn := need_f w13 A13 np cc13 _ hp13 hnp32 (fun x hx => by
                      unfold prsOf at hx
                      obtain ⟨kx, hkx, rfl⟩ := List.mem_map.1 hx
                      cases hv : s'.V kx with
                      | none => show ((none : Option (List UInt8)).getD []).length ≤ 250; decide
                      | some l1 => exact K13.out.1.vals.short _ _ hv)
                    rw [need_prs, HX.out.2] at kn
                    refine kn.mono ?_
                    rintro e w14 ⟨rfl, c14⟩
                    have J14 : Aside _ := K13.out.1.below c14
                    have hB14 : Aside (Below w.heap.size w w14) := by
                      have a1 := hB8.out
                      have a2 := a1.trans (K11.out.2.mono a1.size)
                      have a3 := a2.trans (K13.out.2.mono a2.size)
                      exact a3.trans (c14.mono a3.size)
                    have hRel : ∃ k_1 : Nat, k_1 ≤ m ∧ Value.int IntKind.i64 ((k : Int) + 1) = Value.int IntKind.i64 (k_1 : Int) ∧ ∃ F s, JAt w14 J F s ∧ On F ∧ Tail F J s ∧ s.size = 2 * mm ∧ Below w.heap.size w w14 := ⟨k + 1, by omega, by go_num, G, s', J14.out, HC.out.1, HC.out.2.1, HC.out.2.2.1, hB14.out⟩
                    have hMea : m - (intOf (Value.int IntKind.i64 ((k : Int) + 1))).toNat < m - (intOf (Value.int IntKind.i64 (k : Int))).toNat := by simp [intOf]; omega
                    have HRM : Aside _ := And.intro hRel hMea
                    clear kn c14 hp13 hRel hMea
                    go_wp2
                    all_goals exact HRM.out
              trivial
          · have k0 : (o.k != 0) = true := bne_iff_ne.2 (by omega)
            have k1 : (o.k != 1) = false := bne_eq_false_iff_eq.2 hk1
            clear hk1
            go_wp2_with fail
            refine kp.mono ?_
            intro e w8 hp
            clear kp
            have hbt := hp.but4
            obtain ⟨_, hO⟩ := put_on H7.out.1 HR.out.2.1 HR.out.2.2.1 hp
            have hlov : o.l.length = o.n := HV.out.len
            have hNb : N = wr.heap.size := HN.out.symm
            have hjlt : J.jb < wr.heap.size ∧ J.g < wr.heap.size ∧ J.bb < wr.heap.size ∧ J.wb < wr.heap.size := by
              have a := HR.out.1.fl.lt
              exact ⟨World.block_lt_of_cell? _ _ HR.out.1.c2, a.1, a.2.1, a.2.2⟩
            have hs67 : wr.heap.size ≤ w6.heap.size ∧ w6.heap.size ≤ w7.heap.size := ⟨Nat.le_trans H5.out.2.2.2.size H6.out.2.2.size, H7.out.2.2.2.size⟩
            have hlow : w.heap.size ≤ J.jb ∧ w.heap.size ≤ J.g ∧ w.heap.size ≤ J.bb ∧ w.heap.size ≤ J.wb := by
              obtain ⟨h1, h2, h3, h4, _⟩ := HJ.out
              obtain ⟨_, a1, a2, a3, a4, _⟩ := H3.out
              have := B2.out.size
              have := a1.size
              exact ⟨by omega, by omega, by omega, by omega⟩
            have p8 : OpC w8 N o := H7.out.2.1.at_ (fun p hpb => hbt.cell (by rw [hpb]; exact H7.out.2.1.lt) (by omega) (by omega) (by omega) (by omega)) hbt.size
            have hwas : Aside (Bs w8 w8.heap.size Ag ln ((s.V o.a).getD [])) := bs_move H7.out.2.2.1 hbt.size (fun a ha hal off => hbt.cell (p := ⟨a.block, off, none⟩) hal (by have := hge.out a ha; show a.block ≠ _; omega) (by have := hge.out a ha; show a.block ≠ _; omega) (by have := hge.out a ha; show a.block ≠ _; omega) (by have := hge.out a ha; show a.block ≠ _; omega))
            have hB8 : Aside (Below w.heap.size w w8) := hB7.out.trans (hbt.below hB7.out.size hlow.1 hlow.2.1 hlow.2.2.1 hlow.2.2.2)
            have hval : Aside (Bs w8 w8.heap.size o.A o.n o.l) := by
              have x1 := H5.out.2.2.2.trans ((H6.out.2.2.trans (H7.out.2.2.2.mono H6.out.2.2.size)).mono H5.out.2.2.2.size)
              have x2 := HR.out.2.2.2.2.1.size
              have x3 := hbt.below hB7.out.size hlow.1 hlow.2.1 hlow.2.2.1 hlow.2.2.2
              exact ((HR.out.2.2.2.2.2.bs.below' x1 x2).below x3).more hB8.out.size
            have P8 : Aside _ := p8
            have r0 := p8.c0
            have r1 := p8.c1
            have r2 := p8.c2
            have HLO : Aside _ := hlow
            have hen := HR.out.1.en
            have hep4 := HR.out.1.ep
            have hszm := HR.out.2.2.2.1
            clear hp hbt hNb hjlt hs67 p8 hlow q0 q1 q2
            rcases hO with ⟨ec, rfl, hec, hb8, _⟩ | ⟨_, hlen250, rfl, hvk, hb8⟩ | ⟨hkr, hlen250, rfl, hvk, _, hst⟩
            · have qe : (ec != 0) = true := bne_iff_ne.2 hec
              have HB8 : Aside _ := hb8
              clear hec hb8 r0 r1 r2
              have kr := room_f w8 J F s (H7.out.1.below HB8.out)
              rw [hjb] at kr
              rw [H5.out.2.2.1] at kr
              go_wp2_with fail
              refine kr.mono ?_
              rintro e w9 ⟨rfl, c9⟩
              have K9 : Aside _ := And.intro ((H7.out.1.below HB8.out).below c9) c9
              have ke := epoch_f w9 J F s K9.out.1
              rw [hjb] at ke
              skip
              clear kr c9
              go_wp2_with fail
              refine ke.mono ?_
              rintro e w10 ⟨rfl, hw⟩
              obtain rfl := hw.symm
              clear ke
              go_wp2
              go_roundw
              case rel => exact ⟨k + 1, by omega, by go_num, F, s, K9.out.1, HR.out.2.1, HR.out.2.2.1, HR.out.2.2.2.1, (hB8.out).trans (K9.out.2.mono (hB8.out).size)⟩
              case measure => simp [intOf]; omega

            · have hgl : (s.V o.a).getD [] = o.l := by rw [hvk]; rfl
              have his : isg = true := by rw [← HIS.out, hvk]; rfl
              subst his
              have hlo : o.n ≤ 250 := by omega
              have e7 : IntKind.i64.wrap ((o.n : Int) + 7) = (o.n : Int) + 7 := by rw [IntKind.wrap_i64]; omega
              have ksm := same_any Ag o.A ln cg o.n o.c _ _ w8 _ _ hwas.out hval.out (by omega) (by omega)
              rw [hgl, decide_eq_true rfl] at ksm
              have HB8 : Aside _ := hb8
              clear hgl hb8 hvk
              go_wp2_with fail
              refine ksm.mono ?_
              rintro e w9 ⟨rfl, m9, hw9⟩
              have c9 : Below w8.heap.size w8 w9 := hw9 ▸ drewN_below w8 _ m9
              have J9 : Aside (JAt w9 J F s) := (H7.out.1.below HB8.out).below c9
              have hB9 : Aside (Below w.heap.size w w9) := hB8.out.trans (c9.mono hB8.out.size)
              clear ksm hw9 c9 r0 r1 r2
              have kr := room_f w9 J F s (J9.out)
              rw [hjb] at kr
              rw [H5.out.2.2.1] at kr
              go_wp2_with fail
              refine kr.mono ?_
              rintro e w10 ⟨rfl, c9⟩
              have K9 : Aside _ := And.intro ((J9.out).below c9) c9
              have ke := epoch_f w10 J F s K9.out.1
              rw [hjb] at ke
              skip
              clear kr c9
              go_wp2_with fail
              refine ke.mono ?_
              rintro e w11 ⟨rfl, hw⟩
              obtain rfl := hw.symm
              clear ke
              go_wp2
              go_roundw
              case rel => exact ⟨k + 1, by omega, by go_num, F, s, K9.out.1, HR.out.2.1, HR.out.2.2.1, HR.out.2.2.2.1, (hB9.out).trans (K9.out.2.mono (hB9.out).size)⟩
              case measure => simp [intOf]; omega

            · obtain ⟨G, s', hj', hon', htl', hsz', hV', hlG, hcase⟩ := hst.tail H7.out.1 HR.out.2.2.1
              rw [seals_len] at hcase
              have hlo : o.n ≤ 250 := by omega
              have e7 : IntKind.i64.wrap ((o.n : Int) + 7) = (o.n : Int) + 7 := by rw [IntKind.wrap_i64]; omega
              have HC : Aside _ := And.intro hon' (And.intro htl' (And.intro (hsz'.trans HR.out.2.2.2.1) hV'))
              have HJ8 : Aside _ := hj'
              have hne : (s.V o.a).getD [] ≠ o.l ∨ isg = false := by
                cases hv : s.V o.a with
                | none => right; rw [← HIS.out, hv]; rfl
                | some l1 => left; intro e; exact hvk (by rw [hv, ← e]; rfl)
              have HNE : Aside _ := hne
              have hrm := H5.out.2.2.1
              have HCS : Aside _ := hcase
              have hV3 := hV'
              clear hst hj' hon' htl' hvk hne hlG hcase hV'
              -- the test of what was there
              suffices htest : True by
                cases isg with
                | true =>
                  have hn2 : (s.V o.a).getD [] ≠ o.l := by
                    rcases HNE.out with h | h
                    · exact h
                    · cases h
                  have ksm := same_any Ag o.A ln cg o.n o.c _ _ w8 _ _ hwas.out hval.out (by omega) (by omega)
                  rw [decide_eq_false hn2] at ksm
                  clear hn2
                  by_cases hfit : (o.n : Int) + 7 ≤ rm
                  · have hcs : s'.cnt = s.cnt ∧ s'.ep = s.ep ∧ s'.en = s.en + (o.l.length + 6) + 1 := by
                      rcases HCS.out with ⟨_, h1, h2, h3, _⟩ | ⟨h, _⟩
                      · exact ⟨h1, h2, h3⟩
                      · omega
                    have HX : Aside _ := hcs
                    have hroom : (s'.size : Int) - (s'.en : Int) = rm - ((o.n : Int) + 7) := by rw [hcs.2.2, HC.out.2.2.1]; omega
                    have e8 : IntKind.i64.wrap (rm - ((o.n : Int) + 7)) = rm - ((o.n : Int) + 7) := by rw [IntKind.wrap_i64]; omega
                    have hge0 : 0 ≤ rm := by omega
                    have HRO : Aside _ := hroom
                    clear hcs hroom
                    go_wp2_with fail

                    refine ksm.mono ?_
                    rintro e w9 ⟨rfl, m9, hw9⟩
                    have c9 : Below w8.heap.size w8 w9 := hw9 ▸ drewN_below w8 _ m9
                    have J9 : Aside (JAt w9 J G s') := HJ8.out.below c9
                    have hB9 : Aside (Below w.heap.size w w9) := hB8.out.trans (c9.mono hB8.out.size)
                    have P9 : OpC w9 N o := P8.out.below c9
                    have r0 := P9.c0
                    have r1 := P9.c1
                    have r2 := P9.c2
                    clear ksm hw9 c9 P9
                    have kr := room_f w9 J G s' (J9.out)
                    rw [hjb] at kr
                    rw [HRO.out] at kr
                    go_wp2_with fail
                    refine kr.mono ?_
                    rintro e w10 ⟨rfl, c9⟩
                    have K9 : Aside _ := And.intro ((J9.out).below c9) c9
                    have ke := epoch_f w10 J G s' K9.out.1
                    rw [hjb] at ke
                    rw [HX.out.2.1] at ke
                    clear kr c9
                    go_wp2_with fail
                    refine ke.mono ?_
                    rintro e w11 ⟨rfl, hw⟩
                    obtain rfl := hw.symm
                    clear ke
                    go_wp2
                    go_roundw
                    case rel => exact ⟨k + 1, by omega, by go_num, G, s', K9.out.1, HC.out.1, HC.out.2.1, HC.out.2.2.1, (hB9.out).trans (K9.out.2.mono (hB9.out).size)⟩
                    case measure => simp [intOf]; omega
                  · have hcs : s'.ep = s.ep + 1 ∧ s'.en = sizeAll s'.V := by
                      rcases HCS.out with ⟨h, _⟩ | ⟨_, _, h2, h3, _⟩
                      · omega
                      · exact ⟨h2, by rw [h3, HC.out.2.2.2]⟩
                    have he9 := HJ8.out.ep
                    have e9 : IntKind.u32.wrap (s.ep + 1) = s.ep + 1 := by rw [IntKind.wrap_u32]; omega
                    obtain ⟨sv, hsv⟩ : ∃ sv, sizeAll s'.V = sv := ⟨_, rfl⟩
                    have hen' := HJ8.out.en
                    rw [hsv] at hcs
                    obtain ⟨M2, hM2⟩ : ∃ M2, 2 * mm = M2 := ⟨_, rfl⟩
                    have HM : Aside _ := hM2
                    have e10 : IntKind.i64.wrap ((M2 : Int) - (sv : Int)) = (M2 : Int) - (sv : Int) := by rw [IntKind.wrap_i64]; omega
                    have e11 : (((M2 : Int) - (sv : Int)) != ((M2 : Int) - (sv : Int))) = false := bne_self_eq_false _
                    have HX : Aside _ := And.intro hcs hsv
                    clear hcs he9 hsv hen' hM2
                    go_wp2_with fail

                    refine ksm.mono ?_
                    rintro e w9 ⟨rfl, m9, hw9⟩
                    have c9 : Below w8.heap.size w8 w9 := hw9 ▸ drewN_below w8 _ m9
                    have J9 : Aside (JAt w9 J G s') := HJ8.out.below c9
                    have hB9 : Aside (Below w.heap.size w w9) := hB8.out.trans (c9.mono hB8.out.size)
                    have P9 : OpC w9 N o := P8.out.below c9
                    have r0 := P9.c0
                    have r1 := P9.c1
                    have r2 := P9.c2
                    clear ksm hw9 c9 P9
                    go_wp2_with fail
                    have ke := epoch_f w9 J G s' (J9.out)
                    rw [hjb, HX.out.1.1] at ke
                    refine ke.mono ?_
                    rintro e w10 ⟨rfl, hw⟩
                    obtain rfl := hw.symm
                    clear ke
                    go_wp2_with fail
                    have kr := room_f w9 J G s' (J9.out)
                    rw [hjb, HC.out.2.2.1, HX.out.1.2, HM.out] at kr
                    refine kr.mono ?_
                    rintro e w11 ⟨rfl, c11⟩
                    have K11 : Aside _ := And.intro ((J9.out).below c11) c11
                    clear kr c11
                    go_wp2_with fail
                    have kz := psize_f w11 (J.pp 0) J.g (J.fi 0) (J.co 0) (J.be 0) (J.si 0) (K11.out.1.part 0 (by omega))
                    rw [HJ.out.2.2.2.2.1, HSI.out, HM.out] at kz
                    refine kz.mono ?_
                    rintro e w12 ⟨rfl, hw⟩
                    obtain rfl := hw.symm
                    clear kz
                    go_wp2_with fail
                    have kp := pairs_f w11 J G s' K11.out.1
                    rw [hjb] at kp
                    refine kp.mono ?_
                    rintro e w13 ⟨v13, rfl, ho13, c13⟩
                    clear kp
                    have hprs := ho13.prs
                    obtain ⟨np, hnp⟩ : ∃ np, (prsOf s'.V).length = np := ⟨_, rfl⟩
                    rw [hnp] at hprs
                    have hnp32 : np ≤ 32 := by rw [← hnp]; unfold prsOf; rw [List.length_map]; exact keysOf_length _
                    obtain ⟨A13, cc13, rfl, _, hp13⟩ := hprs
                    have K13 : Aside _ := And.intro (K11.out.1.below c13) c13
                    clear ho13 c13 hnp
                    go_wp2_with fail
                    have kn := need_f w13 A13 np cc13 _ hp13 hnp32 (fun x hx => by
                      unfold prsOf at hx
                      obtain ⟨kx, hkx, rfl⟩ := List.mem_map.1 hx
                      cases hv : s'.V kx with
                      | none => show ((none : Option (List UInt8)).getD []).length ≤ 250; decide
                      | some l1 => exact K13.out.1.vals.short _ _ hv)
                    rw [need_prs, HX.out.2] at kn
                    refine kn.mono ?_
                    rintro e w14 ⟨rfl, c14⟩
                    have J14 : Aside _ := K13.out.1.below c14
                    have hB14 : Aside (Below w.heap.size w w14) := by
                      have a1 := hB9.out
                      have a2 := a1.trans (K11.out.2.mono a1.size)
                      have a3 := a2.trans (K13.out.2.mono a2.size)
                      exact a3.trans (c14.mono a3.size)
                    have hRel : ∃ k_1 : Nat, k_1 ≤ m ∧ Value.int IntKind.i64 ((k : Int) + 1) = Value.int IntKind.i64 (k_1 : Int) ∧ ∃ F s, JAt w14 J F s ∧ On F ∧ Tail F J s ∧ s.size = 2 * mm ∧ Below w.heap.size w w14 := ⟨k + 1, by omega, by go_num, G, s', J14.out, HC.out.1, HC.out.2.1, HC.out.2.2.1, hB14.out⟩
                    have hMea : m - (intOf (Value.int IntKind.i64 ((k : Int) + 1))).toNat < m - (intOf (Value.int IntKind.i64 (k : Int))).toNat := by simp [intOf]; omega
                    have HRM : Aside _ := And.intro hRel hMea
                    clear kn c14 hp13 hRel hMea
                    go_wp2
                    all_goals exact HRM.out
                | false =>
                  by_cases hfit : (o.n : Int) + 7 ≤ rm
                  · have hcs : s'.cnt = s.cnt ∧ s'.ep = s.ep ∧ s'.en = s.en + (o.l.length + 6) + 1 := by
                      rcases HCS.out with ⟨_, h1, h2, h3, _⟩ | ⟨h, _⟩
                      · exact ⟨h1, h2, h3⟩
                      · omega
                    have HX : Aside _ := hcs
                    have hroom : (s'.size : Int) - (s'.en : Int) = rm - ((o.n : Int) + 7) := by rw [hcs.2.2, HC.out.2.2.1]; omega
                    have e8 : IntKind.i64.wrap (rm - ((o.n : Int) + 7)) = rm - ((o.n : Int) + 7) := by rw [IntKind.wrap_i64]; omega
                    have hge0 : 0 ≤ rm := by omega
                    have HRO : Aside _ := hroom
                    clear hcs hroom
                    go_wp2_with fail
                    have kr := room_f w8 J G s' (HJ8.out)
                    rw [hjb] at kr
                    rw [HRO.out] at kr
                    refine kr.mono ?_
                    rintro e w10 ⟨rfl, c9⟩
                    have K9 : Aside _ := And.intro ((HJ8.out).below c9) c9
                    have ke := epoch_f w10 J G s' K9.out.1
                    rw [hjb] at ke
                    rw [HX.out.2.1] at ke
                    clear kr c9
                    go_wp2_with fail
                    refine ke.mono ?_
                    rintro e w11 ⟨rfl, hw⟩
                    obtain rfl := hw.symm
                    clear ke
                    go_wp2
                    go_roundw
                    case rel => exact ⟨k + 1, by omega, by go_num, G, s', K9.out.1, HC.out.1, HC.out.2.1, HC.out.2.2.1, (hB8.out).trans (K9.out.2.mono (hB8.out).size)⟩
                    case measure => simp [intOf]; omega
                  · have hcs : s'.ep = s.ep + 1 ∧ s'.en = sizeAll s'.V := by
                      rcases HCS.out with ⟨h, _⟩ | ⟨_, _, h2, h3, _⟩
                      · omega
                      · exact ⟨h2, by rw [h3, HC.out.2.2.2]⟩
                    have he9 := HJ8.out.ep
                    have e9 : IntKind.u32.wrap (s.ep + 1) = s.ep + 1 := by rw [IntKind.wrap_u32]; omega
                    obtain ⟨sv, hsv⟩ : ∃ sv, sizeAll s'.V = sv := ⟨_, rfl⟩
                    have hen' := HJ8.out.en
                    rw [hsv] at hcs
                    obtain ⟨M2, hM2⟩ : ∃ M2, 2 * mm = M2 := ⟨_, rfl⟩
                    have HM : Aside _ := hM2
                    have e10 : IntKind.i64.wrap ((M2 : Int) - (sv : Int)) = (M2 : Int) - (sv : Int) := by rw [IntKind.wrap_i64]; omega
                    have e11 : (((M2 : Int) - (sv : Int)) != ((M2 : Int) - (sv : Int))) = false := bne_self_eq_false _
                    have HX : Aside _ := And.intro hcs hsv
                    clear hcs he9 hsv hen' hM2
                    go_wp2_with fail
                    have ke := epoch_f w8 J G s' (HJ8.out)
                    rw [hjb, HX.out.1.1] at ke
                    refine ke.mono ?_
                    rintro e w10 ⟨rfl, hw⟩
                    obtain rfl := hw.symm
                    clear ke
                    go_wp2_with fail
                    have kr := room_f w8 J G s' (HJ8.out)
                    rw [hjb, HC.out.2.2.1, HX.out.1.2, HM.out] at kr
                    refine kr.mono ?_
                    rintro e w11 ⟨rfl, c11⟩
                    have K11 : Aside _ := And.intro ((HJ8.out).below c11) c11
                    clear kr c11
                    go_wp2_with fail
                    have kz := psize_f w11 (J.pp 0) J.g (J.fi 0) (J.co 0) (J.be 0) (J.si 0) (K11.out.1.part 0 (by omega))
                    rw [HJ.out.2.2.2.2.1, HSI.out, HM.out] at kz
                    refine kz.mono ?_
                    rintro e w12 ⟨rfl, hw⟩
                    obtain rfl := hw.symm
                    clear kz
                    go_wp2_with fail
                    have kp := pairs_f w11 J G s' K11.out.1
                    rw [hjb] at kp
                    refine kp.mono ?_
                    rintro e w13 ⟨v13, rfl, ho13, c13⟩
                    clear kp
                    have hprs := ho13.prs
                    obtain ⟨np, hnp⟩ : ∃ np, (prsOf s'.V).length = np := ⟨_, rfl⟩
                    rw [hnp] at hprs
                    have hnp32 : np ≤ 32 := by rw [← hnp]; unfold prsOf; rw [List.length_map]; exact keysOf_length _
                    obtain ⟨A13, cc13, rfl, _, hp13⟩ := hprs
                    have K13 : Aside _ := And.intro (K11.out.1.below c13) c13
                    clear ho13 c13 hnp
                    go_wp2_with fail
                    have kn := need_f w13 A13 np cc13 _ hp13 hnp32 (fun x hx => by
                      unfold prsOf at hx
                      obtain ⟨kx, hkx, rfl⟩ := List.mem_map.1 hx
                      cases hv : s'.V kx with
                      | none => show ((none : Option (List UInt8)).getD []).length ≤ 250; decide
                      | some l1 => exact K13.out.1.vals.short _ _ hv)
                    rw [need_prs, HX.out.2] at kn
                    refine kn.mono ?_
                    rintro e w14 ⟨rfl, c14⟩
                    have J14 : Aside _ := K13.out.1.below c14
                    have hB14 : Aside (Below w.heap.size w w14) := by
                      have a1 := hB8.out
                      have a2 := a1.trans (K11.out.2.mono a1.size)
                      have a3 := a2.trans (K13.out.2.mono a2.size)
                      exact a3.trans (c14.mono a3.size)
                    have hRel : ∃ k_1 : Nat, k_1 ≤ m ∧ Value.int IntKind.i64 ((k : Int) + 1) = Value.int IntKind.i64 (k_1 : Int) ∧ ∃ F s, JAt w14 J F s ∧ On F ∧ Tail F J s ∧ s.size = 2 * mm ∧ Below w.heap.size w w14 := ⟨k + 1, by omega, by go_num, G, s', J14.out, HC.out.1, HC.out.2.1, HC.out.2.2.1, hB14.out⟩
                    have hMea : m - (intOf (Value.int IntKind.i64 ((k : Int) + 1))).toNat < m - (intOf (Value.int IntKind.i64 (k : Int))).toNat := by simp [intOf]; omega
                    have HRM : Aside _ := And.intro hRel hMea
                    clear kn c14 hp13 hRel hMea
                    go_wp2
                    all_goals exact HRM.out
              trivial
        · have k0 : (o.k != 0) = true := bne_iff_ne.2 (fun e => hkind (.inl e))
          have k1 : (o.k != 1) = true := bne_iff_ne.2 (fun e => hkind (.inr e))
          clear hkind
          go_wp2
          go_roundw
          case rel => exact ⟨k + 1, by omega, by go_num, F, s, H7.out.1, HR.out.2.1, HR.out.2.2.1, HR.out.2.2.2.1, hB7.out⟩
          case measure => simp [intOf]; omega
      · go_wp2
        go_ret
        exact ⟨rfl, hB⟩
end Go.Proofs.Ytiieianbmldnbaa
