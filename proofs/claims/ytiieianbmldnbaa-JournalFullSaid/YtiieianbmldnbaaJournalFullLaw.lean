/-
  JournalFull: what has no room is refused.
-/
import Derived.Test.YtiieianbmldnbaaJournalSettled
import Derived.Test.YtiieianbmldnbaaSame
import Derived.Test.YtiieianbmldnbaaJArgs
namespace Go.Proofs.Ytiieianbmldnbaa
open Go.RowKit Go.Maps Go.Shelf
set_option maxRecDepth 100000
set_option linter.unusedVariables false
set_option maxRecDepth 100000
theorem dropV_none {V : Int → Option (List UInt8)} {k : Int} (h : V k = none) : dropV V k = V := by
  funext x
  unfold dropV
  by_cases e : x = k
  · rw [if_pos e, e, h]
  · rw [if_neg e]
theorem own_mi {w : World} {base n : Nat} {v : Value} {l : List UInt8} (h : w.ownsRow base 5 1 v n (U8 l)) :
    ∃ A c, v = .slice A n c ∧ n ≤ c ∧ Bs w w.heap.size A n l ∧ (0 < n → ∃ g, A = some ⟨g, 0, none⟩ ∧ base ≤ g ∧ g < w.heap.size ∧ MI w g n) := by
  obtain ⟨A, c, rfl, hc, hb⟩ := Bs.of_own h
  refine ⟨A, c, rfl, hc, hb, fun hn => ?_⟩
  have hb' := hb
  obtain ⟨b, off, rfl, hlt, _⟩ := hb'.place hn
  rcases h.2 with ⟨h', rfl⟩ | ⟨g, cap, cur, h', hbg, hg, _⟩
  · omega
  · simp only [Value.slice.injEq, Option.some.injEq, Addr.mk.injEq, and_true, true_and] at h'
    obtain ⟨⟨rfl, rfl⟩, rfl⟩ := h'
    exact ⟨b, rfl, hbg, (mi_of_own h).2, (mi_of_own h).1⟩
/-- Put of what is told. -/
theorem put_told {W w' : World} {J : JP} {F : Fl} {s : JS} {e : Ending} {l : List UInt8} {k : Int} (hj : JAt W J F s) (hon : On F) (ht : Tail F J s) (hp : PutPost W J F s k l e w') (hv : s.V k = some l) : e = .returned (.int .i64 0) ∧ Below W.heap.size W w' := by
  obtain ⟨_, hO⟩ := put_on hj hon ht hp
  have hk := hj.vals.keys k (by rw [hv]; rfl)
  have hl := hj.vals.short k l hv
  unfold PutOn at hO
  rcases hO with ⟨ec, he, hec, hb, hc⟩ | ⟨_, _, he, _, hb⟩ | ⟨_, _, _, hx, _⟩
  · rcases hc with ⟨hc, _⟩ | ⟨_, hc, _⟩ | ⟨_, _, hc, _⟩ | ⟨_, _, hc, _⟩
    · omega
    · omega
    · exact absurd hv hc
    · exact absurd hv hc
  · exact ⟨he, hb⟩
  · exact absurd hv hx
/-- Put of a key that is not told. -/
theorem full_put {W w' : World} {J : JP} {F : Fl} {s : JS} {e : Ending} {l : List UInt8} {k : Int} (hj : JAt W J F s) (hon : On F) (ht : Tail F J s) (hp : PutPost W J F s k l e w') (hk : 0 ≤ k ∧ k < 32) (hl : l.length ≤ 250) (hv : s.V k = none) (hep : s.ep < 4294967295) :
    (∀ B, B ≤ W.heap.size → B ≤ J.g → B ≤ J.bb → B ≤ J.wb → B ≤ J.jb → Below B W w') ∧ ((s.size < sizeAll s.V + 7 + l.length ∧ e = .returned (.int .i64 6) ∧ Below W.heap.size W w') ∨ (sizeAll s.V + 7 + l.length ≤ s.size ∧ e = .returned (.int .i64 0) ∧ ∃ G s', JAt w' J G s' ∧ On G ∧ Tail G J s' ∧ s'.size = s.size ∧ s'.V = putV s.V k l ∧ sizeAll s'.V = sizeAll s.V + 7 + l.length ∧ s'.ep ≤ s.ep + 1)) := by
  obtain ⟨hB, hO⟩ := put_on hj hon ht hp
  refine ⟨hB, ?_⟩
  have hne : s.V k ≠ some l := by rw [hv]; exact fun x => by cases x
  unfold PutOn at hO
  rw [dropV_none hv] at hO
  have hsz : sizeAll (putV s.V k l) = sizeAll s.V + 7 + l.length := by rw [sizeAll_put l hk.1 hk.2, dropV_none hv]
  rw [hsz] at hO
  rcases hO with ⟨ec, he, hec, hb, hc⟩ | ⟨_, _, _, hx, _⟩ | ⟨_, _, he, _, hs, hst⟩
  · rcases hc with ⟨hc, _⟩ | ⟨_, hc, _⟩ | ⟨_, _, _, hc, rfl⟩ | ⟨_, _, _, _, _, hc, _⟩
    · omega
    · omega
    · exact .inl ⟨hc, he, hb⟩
    · omega
  · exact absurd hx hne
  · obtain ⟨G, s', hj', hon', ht', hsz', hV', _, hcase⟩ := Stepped.tail (W := W) hst hj ht
    refine .inr ⟨hs, he, G, s', hj', hon', ht', hsz', hV', by rw [hV', hsz], ?_⟩
    rcases hcase with ⟨_, _, h, _⟩ | ⟨_, _, h, _⟩
    · omega
    · omega
set_option maxHeartbeats 8000000 in
theorem full_law (sz : Int) (A : Option Addr) (m c : Nat) (ls : List (List UInt8)) (A2 : Option Addr) (n2 c2 : Nat) (l2 : List UInt8) (w : World) (hP : Pc w w.heap.size A m ls) (hm : m ≤ maxLen) (hb : Bs w w.heap.size A2 n2 l2) (hn2 : n2 ≤ maxLen) :
    Calls Try.prog 5 #[.int .i64 sz, .slice A m c, .slice A2 n2 c2] w fun e w' => e = .returned (.bool true) ∧ Below w.heap.size w w' := by
  have HB : Aside _ := hb
  have HP : Aside _ := hP
  clear hb hP
  go_enter Try.func5, Try.ntmps5
  go_wp2_with fail
  refine (alive5 w).mono ?_
  rintro e w1 ⟨rfl, b1⟩
  have H1 : Aside _ := b1
  clear b1
  by_cases hs : (64 : Int) < sz
  · go_wp2
    go_ret
    exact ⟨rfl, H1.out⟩
  by_cases hm6 : (12 : Int) < (m : Int)
  · go_wp2
    go_ret
    exact ⟨rfl, H1.out⟩
  by_cases hm7 : (200 : Int) < (n2 : Int)
  · go_wp2
    go_ret
    exact ⟨rfl, H1.out⟩
  obtain ⟨mm, hmm⟩ : ∃ mm : Nat, min (max sz 16) 4096 = (mm : Int) := ⟨(min (max sz 16) 4096).toNat, by omega⟩
  have hm1 : 16 ≤ mm ∧ mm ≤ 64 := by omega
  have HM1 : Aside _ := hm1
  have kg := groups_f w1 sz mm hmm
  clear hmm hm1
  go_wp2_with fail
  refine kg.mono ?_
  rintro e w3 ⟨g, bb, wb, pa, pb, rfl, hq, b3, hg, hbb, hwb, hpa, hpb⟩
  have ko := jopen_f w3 (QG g bb wb pa pb mm) (fresh 4 mm) hq (by have := HM1.out; show ((min (2 * mm) (2 * mm) : Nat) : Int) ≤ 65536; omega)
  have B3 : Aside (Below w.heap.size w w3) := H1.out.trans (b3.mono H1.out.size)
  have HL : Aside (w.heap.size ≤ g ∧ w.heap.size ≤ bb ∧ w.heap.size ≤ wb) := by have := H1.out.size; exact ⟨by omega, by omega, by omega⟩
  have H3 : Aside _ := hq
  clear kg hq b3 hg hbb hwb hpa hpb
  go_wp2_with fail
  refine ko.mono ?_
  intro e w4 hp
  obtain ⟨rfl, G, hj, hl, hbel⟩ := open_fresh HM1.out.1 (by have := HM1.out; omega) H3.out hp
  have B4 : Aside (Below w.heap.size w w4) := B3.out.trans (hbel _ B3.out.size HL.out.1 HL.out.2.1 HL.out.2.2)
  obtain ⟨n3, hn3⟩ : ∃ n3, w3.heap.size = n3 := ⟨_, rfl⟩
  have HN3 : Aside (w.heap.size ≤ n3) := by rw [← hn3]; exact B3.out.size
  have ht0 : Tail G ((QG g bb wb pa pb mm).at_ w3.heap.size) (SF mm) := by
    have := hl.rest
    rw [sizeAll_noV] at this
    show Blk G (0 + 8) (0 + 2 * mm)
    exact this
  obtain ⟨J, hJ⟩ : ∃ J, (QG g bb wb pa pb mm).at_ w3.heap.size = J := ⟨_, rfl⟩
  have HJ : Aside (J.jb = n3 ∧ J.g = g ∧ J.bb = bb ∧ J.wb = wb ∧ J.pp 0 = pa ∧ J.si 0 = 2 * mm) := by rw [← hJ, ← hn3]; exact ⟨rfl, rfl, rfl, rfl, rfl, rfl⟩
  rw [hJ] at hj ht0
  have H4 : Aside _ := And.intro hj (And.intro ht0 hl.on)
  rw [hn3]
  clear ko hp hj hl hbel ht0 hJ hn3
  obtain ⟨M2, hM2⟩ : ∃ M2, 2 * mm = M2 := ⟨_, rfl⟩
  have hM2r : 32 ≤ M2 ∧ M2 ≤ 128 := by have := HM1.out; omega
  have HM2 : Aside _ := hM2
  clear hM2
  go_wp2
  go_loopw [12, 56] (fun nd i wr => ∃ k n : Nat, k ≤ m ∧ i = .int .i64 k ∧ nd = .int .i64 (n : Int) ∧ n ≤ M2 ∧ ∃ F s, JAt wr J F s ∧ On F ∧ Tail F J s ∧ s.size = M2 ∧ Hid (n = sizeAll s.V) ∧ s.ep ≤ 1 + (k : Int) ∧ (∀ key l, s.V key = some l → 0 ≤ key ∧ key < (k : Int) ∧ ls[key.toNat]? = some l) ∧ Below w.heap.size w wr) (fun _ i _ => m - (intOf i).toNat)
  case atStart => exact ⟨0, 8, by omega, rfl, rfl, by omega, G, SF mm, H4.out.1, H4.out.2.2, H4.out.2.1, HM2.out, by show 8 = sizeAll noV; rw [sizeAll_noV], by show (1 : Int) ≤ 1 + ((0 : Nat) : Int); omega, fun key l h => (by cases h), B4.out⟩
  case round =>
    obtain ⟨k, n, hk, rfl, rfl, hnM, F, s, hj, hon, ht, hsz, hn, hep, hV, hB⟩ := hrel
    have HR : Aside _ := And.intro hj (And.intro hon (And.intro ht (And.intro hsz (And.intro hn.out (And.intro hep (And.intro hV hB))))))
    clear hj hon ht hsz hn hep hV hB
    by_cases hlt : k < m
    · obtain ⟨b, off, rfl, hbl, hc⟩ := HP.out.place (by omega)
      obtain ⟨l, hl⟩ : ∃ l, ls[k]? = some l := ⟨_, List.getElem?_eq_getElem (by have := HP.out.len; omega)⟩
      obtain ⟨A', n', c', h1, _, hbs⟩ := hc k l hl
      have h1' : wr.cell? ⟨b, off + k, none⟩ = some (.slice A' n' c') := (HR.out.2.2.2.2.2.2.2.cell (p := ⟨b, off + k, none⟩) hbl).trans h1
      have HBS : Aside (Bs w w.heap.size A' n' l) := hbs
      have HLK : Aside (ls[k]? = some l) := hl
      have hkn : (k : Int) < m := by omega
      clear hc h1 hbs hl
      by_cases h200 : (200 : Int) < (n' : Int)
      · go_wp2
        go_ret
        exact ⟨rfl, HR.out.2.2.2.2.2.2.2⟩
      · have e1 : IntKind.i64.wrap ((M2 : Int) - (n : Int)) = (M2 : Int) - (n : Int) := by rw [IntKind.wrap_i64]; omega
        have e2 : IntKind.i64.wrap ((n' : Int) + 7) = (n' : Int) + 7 := by rw [IntKind.wrap_i64]; omega
        have e3 : IntKind.i64.wrap ((n : Int) + ((n' : Int) + 7)) = (n : Int) + ((n' : Int) + 7) := by rw [IntKind.wrap_i64]; omega
        have kz := psize_f wr pa g (J.fi 0) (J.co 0) (J.be 0) (J.si 0) (by have := HR.out.1.part 0 (by omega); rw [HJ.out.2.2.2.2.1, HJ.out.2.1] at this; exact this)
        rw [HJ.out.2.2.2.2.2, HM2.out] at kz
        go_wp2_with fail
        refine kz.mono ?_
        rintro e w5 ⟨rfl, hw⟩
        obtain rfl := hw.symm
        clear kz hw
        have kp := put_f wr J F s HR.out.1 (k : Int) (by omega) (by omega) A' n' c' l ((HBS.out.below HR.out.2.2.2.2.2.2.2).more HR.out.2.2.2.2.2.2.2.size)
        rw [HJ.out.1] at kp
        go_wp2_with fail
        refine kp.mono ?_
        intro e w5 hp
        clear kp h1'
        obtain ⟨hbel, hcs⟩ := full_put HR.out.1 HR.out.2.1 HR.out.2.2.1 hp (by omega) (by have := HBS.out.len; omega) (by
          cases hv : s.V (k : Int) with
          | none => rfl
          | some l1 => have := (HR.out.2.2.2.2.2.2.1 _ _ hv).2.1; omega) (by have := HR.out.2.2.2.2.2.1; omega)
        have B5 : Aside (Below w.heap.size w w5) := HR.out.2.2.2.2.2.2.2.trans (hbel _ HR.out.2.2.2.2.2.2.2.size (by rw [HJ.out.2.1]; exact HL.out.1) (by rw [HJ.out.2.2.1]; exact HL.out.2.1) (by rw [HJ.out.2.2.2.1]; exact HL.out.2.2) (by rw [HJ.out.1]; exact HN3.out))
        have hln := HBS.out.len
        have hs1 := HR.out.2.2.2.1
        have hs2 := HR.out.2.2.2.2.1
        clear hp hbel
        rcases hcs with ⟨hf, rfl, hb⟩ | ⟨hf, rfl, G1, s1, hj1, hon1, ht1, hsz1, hV1, hsa1, hep1⟩
        · have hroom : (M2 : Int) - (n : Int) < (n' : Int) + 7 := by omega
          have HB5 : Aside _ := hb
          clear hf hb hln hs1 hs2
          go_wp2
          go_roundw
          case rel => exact ⟨k + 1, n, by omega, by go_num, rfl, hnM, F, s, HR.out.1.below HB5.out, HR.out.2.1, HR.out.2.2.1, HR.out.2.2.2.1, HR.out.2.2.2.2.1, by have := HR.out.2.2.2.2.2.1; omega, fun key l h => (by have := HR.out.2.2.2.2.2.2.1 key l h; exact ⟨this.1, by omega, this.2.2⟩), B5.out⟩
          case measure => simp [intOf]; omega
        · have hroom : ¬ (M2 : Int) - (n : Int) < (n' : Int) + 7 := by omega
          have HN : Aside (n + (n' + 7) = sizeAll s1.V ∧ n + (n' + 7) ≤ M2) := by exact ⟨by omega, by omega⟩
          have H5 : Aside _ := And.intro hj1 (And.intro hon1 (And.intro ht1 (And.intro (hsz1.trans hs1) (And.intro hV1 hep1))))
          clear hf hj1 hon1 ht1 hsz1 hV1 hsa1 hep1 hln hs1 hs2
          go_wp2
          go_roundw
          case rel =>
            refine ⟨k + 1, n + (n' + 7), by omega, by go_num, by go_num, HN.out.2, G1, s1, H5.out.1, H5.out.2.1, H5.out.2.2.1, H5.out.2.2.2.1, HN.out.1, by have := HR.out.2.2.2.2.2.1; have := H5.out.2.2.2.2.2; omega, fun key l1 h => ?_, B5.out⟩
            rw [H5.out.2.2.2.2.1] at h
            unfold putV at h
            by_cases e : key = (k : Int)
            · rw [if_pos e] at h
              subst e
              injection h with h
              subst h
              exact ⟨by omega, by omega, by rw [show ((k : Int)).toNat = k by omega]; exact HLK.out⟩
            · rw [if_neg e] at h
              have := HR.out.2.2.2.2.2.2.1 key l1 h
              exact ⟨this.1, by omega, this.2.2⟩
          case measure => simp [intOf]; omega
    · have hkm : k = m := by omega
      have kt := turned_f wr g bb wb F (by have := HR.out.1.fl; rw [HJ.out.2.1, HJ.out.2.2.1, HJ.out.2.2.2.1] at this; exact this)
      obtain ⟨T, hT⟩ : ∃ T, F.turned = T := ⟨_, rfl⟩
      rw [hT] at kt
      have HT : Aside _ := hT
      clear hT
      go_wp2_with fail
      refine kt.mono ?_
      rintro e w5 ⟨rfl, hw⟩
      obtain rfl := hw.symm
      clear kt hw
      have kk := jkeys_f J.jb J.lo s.pv s.D s.V wr HR.out.1.c6 HR.out.1.vals
      obtain ⟨nk, hnk⟩ : ∃ nk, (keysOf s.V).length = nk := ⟨_, rfl⟩
      have hnk32 : (nk : Int) ≤ 32 := by have := keysOf_length s.V; omega
      rw [HJ.out.1, hnk] at kk
      have HNK : Aside _ := hnk
      clear hnk
      go_wp2_with fail
      refine kk.mono ?_
      rintro e w6 ⟨vk, rfl, hrow, _, b6⟩
      have hB0 := HR.out.2.2.2.2.2.2.2
      have hrow2 := row_mono hrow hB0.size
      obtain ⟨Ak, ck, rfl, _⟩ := ints_of_own hrow
      have H6 : Aside _ := And.intro (HR.out.1.below b6) (And.intro hrow2 (hB0.trans (b6.mono hB0.size)))
      clear kk hrow hrow2 b6 hB0
      go_wp2
      go_loopw [101] (fun i wq => ∃ q : Nat, q ≤ nk ∧ i = .int .i64 q ∧ JAt wq J F s ∧ wq.ownsRow w.heap.size 3 1 (.slice Ak nk ck) nk ((keysOf s.V).map fun k => .int .i64 k) ∧ Below w.heap.size w wq) (fun i _ => nk - (intOf i).toNat)
      case atStart => exact ⟨0, by omega, rfl, H6.out.1, H6.out.2.1, H6.out.2.2⟩
      case round =>
        obtain ⟨q, hq, rfl, hj, hkr, hB⟩ := hrel
        by_cases hlt2 : q < nk
        · have hkl : q < (keysOf s.V).length := by have := HNK.out; omega
          obtain ⟨key, hkey⟩ : ∃ key, (keysOf s.V)[q]? = some key := ⟨_, List.getElem?_eq_getElem hkl⟩
          obtain ⟨Ak', ck', hsl, hints⟩ := ints_of_own hkr
          injection hsl with e1 e2 e3
          subst e1 e3
          obtain ⟨ga, rfl, _, _, hcell⟩ := hints q key hkey
          have hmem : (s.V key).isSome = true := (keysOf_mem HR.out.1.vals.keys key).1 (List.mem_of_getElem? hkey)
          obtain ⟨l, hl⟩ := Option.isSome_iff_exists.1 hmem
          obtain ⟨x0, x1, x2⟩ := HR.out.2.2.2.2.2.2.1 _ _ hl
          obtain ⟨kx, rfl⟩ : ∃ kx : Nat, key = (kx : Int) := ⟨key.toNat, by omega⟩
          rw [show ((kx : Int)).toNat = kx by omega] at x2
          have hkxm : kx < m := by omega
          obtain ⟨nl, hnl⟩ : ∃ nl, l.length = nl := ⟨_, rfl⟩
          have hnl2 : (nl : Int) ≤ 250 := by have := HR.out.1.vals.short _ _ hl; omega
          have kg := fun wq (hq : JAt wq J F s) => jget_f J.jb J.lo s.pv s.D s.V (kx : Int) wq hq.c6 hq.vals (key_wf (by omega) (by omega))
          rw [hl] at kg
          simp only [Option.getD_some, Option.isSome_some, hnl, HJ.out.1] at kg
          have KG : Aside _ := kg
          obtain ⟨b, off, rfl, hbl, hc⟩ := HP.out.place (by omega)
          obtain ⟨A', n', c', h1, _, hbs⟩ := hc kx l x2
          have hn' : n' = nl := by have := hbs.len; omega
          subst hn'
          have HV : Aside _ := And.intro h1 hbs
          have HQ : Aside _ := And.intro hj (And.intro hkr (And.intro hB hl))
          have kg1 := kg wr hj
          have hqn : (q : Int) < nk := by omega
          clear kg hints hkr hB hl hkey hmem hj h1 hbs hc hkl x2 hnl
          go_wp2_with fail
          refine kg1.mono ?_
          rintro e w7 ⟨u, rfl, ho7, b7⟩
          obtain ⟨Au, cu, rfl, _, _, hmi⟩ := own_mi ho7
          have H7 : Aside _ := And.intro b7 hmi
          clear kg1 ho7 b7 hmi hcell
          go_wp2
          obtain ⟨w8, hw8⟩ : ∃ w8, wr = w8 := ⟨_, rfl⟩
          rw [hw8] at HQ H7
          clear hw8
          go_loopw [113] (fun i wz => ∃ t : Nat, t ≤ n' ∧ i = .int .i64 t ∧ Below w8.heap.size w8 wz ∧ Hid (0 < n' → ∃ M, Au = some ⟨M, 0, none⟩ ∧ w8.heap.size ≤ M ∧ MI wz M n')) (fun i _ => n' - (intOf i).toNat)
          case atStart => exact ⟨0, by omega, rfl, H7.out.1, fun h => by obtain ⟨M, a1, a2, _, a3⟩ := H7.out.2 h; exact ⟨M, a1, a2, a3⟩⟩
          case round =>
            obtain ⟨t, htn, rfl, hbz, hmi⟩ := hrel
            by_cases hlt3 : t < n'
            · obtain ⟨M, rfl, hM, mi⟩ := hmi.out (by omega)
              obtain ⟨z, hz⟩ := mi.2 t hlt3
              have hfr := mi.frozen t hlt3
              have i1 : (t : Int) < (n' : Int) := by omega
              go_wp2
              go_roundw
              case rel => exact ⟨t + 1, by omega, by go_num, hbz.setCell hM _, fun _ => ⟨M, rfl, hM, mi.set t _⟩⟩
              case measure => simp [intOf]; omega
            · have H8 : Aside _ := hbz
              have kg2 := KG.out wr (HQ.out.1.below hbz)
              clear hbz hmi
              go_wp2_with fail
              refine kg2.mono ?_
              rintro e w9 ⟨u, rfl, ho9, b9⟩
              obtain ⟨Aw, cw, rfl, _, hb9, _⟩ := own_mi ho9
              have b89 : Below w8.heap.size w8 w9 := H8.out.trans (b9.mono H8.out.size)
              have B9 : Below w.heap.size w w9 := HQ.out.2.2.1.trans (b89.mono HQ.out.2.2.1.size)
              have c9 : w9.cell? ⟨b, off + kx, none⟩ = some (.slice A' n' c') := (B9.cell (p := ⟨b, off + kx, none⟩) hbl).trans HV.out.1
              have H9 : Aside _ := And.intro b89 (And.intro B9 hb9)
              have ks := same_any Aw A' n' cw n' c' l l w9 _ _ hb9 (HV.out.2.below B9) (by omega) (by omega)
              rw [decide_eq_true rfl] at ks
              have i2 : (kx : Int) < (m : Int) := by omega
              clear kg2 ho9 b9 hb9 b89 B9
              go_wp2_with fail
              refine ks.mono ?_
              rintro e w10 ⟨rfl, m10, hw10⟩
              have b10 : Below w9.heap.size w9 w10 := hw10 ▸ drewN_below _ _ m10
              have b8 : Below w8.heap.size w8 w10 := H9.out.1.trans (b10.mono H9.out.1.size)
              have H10 : Aside _ := And.intro b8 (And.intro (HQ.out.1.below b8) (H9.out.2.2.below b10))
              have kp := put_f w10 J F s H10.out.2.1 (kx : Int) (by omega) (by omega) Aw n' cw l (H10.out.2.2.more b10.size)
              rw [HJ.out.1] at kp
              clear ks hw10 b10 b8 c9
              go_wp2_with fail
              refine kp.mono ?_
              intro e w11 hp
              obtain ⟨rfl, b11⟩ := put_told H10.out.2.1 HR.out.2.1 HR.out.2.2.1 hp HQ.out.2.2.2
              have b8 : Below w8.heap.size w8 w11 := H10.out.1.trans (b11.mono H10.out.1.size)
              have H11 : Aside (Below w8.heap.size w8 w11) := b8
              clear kp hp b11 b8
              go_wp2
              go_roundw
              case rel =>
                exact ⟨q + 1, by omega, by go_num, HQ.out.1.below H11.out, row_kept HQ.out.2.1 fun g cs _ hg => H11.out.block g (Array.getElem?_eq_some_iff.1 hg).1, HQ.out.2.2.1.trans (H11.out.mono HQ.out.2.2.1.size)⟩
              case measure => simp [intOf]; omega
        · have HQ : Aside _ := And.intro hj hB
          have hv20 : s.V 20 = none := by
            cases hv : s.V 20 with
            | none => rfl
            | some l1 => have := (HR.out.2.2.2.2.2.2.1 _ _ hv).2.1; omega
          have HV20 : Aside _ := hv20
          have e0 : ((T : Int) != (T : Int)) = false := bne_self_eq_false _
          have e4 : ((T : Int) == (T : Int)) = true := beq_self_eq_true _
          have e1 : IntKind.i64.wrap ((M2 : Int) - (n : Int)) = (M2 : Int) - (n : Int) := by rw [IntKind.wrap_i64]; omega
          have e2 : IntKind.i64.wrap ((n2 : Int) + 7) = (n2 : Int) + 7 := by rw [IntKind.wrap_i64]; omega
          have kt := turned_f wr g bb wb F (by have := hj.fl; rw [HJ.out.2.1, HJ.out.2.2.1, HJ.out.2.2.2.1] at this; exact this)
          rw [HT.out] at kt
          clear hj hkr hB hv20
          go_wp2_with fail
          refine kt.mono ?_
          rintro e w7 ⟨rfl, hw⟩
          obtain rfl := hw.symm
          clear kt hw
          have kp := put_f wr J F s HQ.out.1 20 (by decide) (by decide) A2 n2 c2 l2 ((HB.out.below HQ.out.2).more HQ.out.2.size)
          rw [HJ.out.1] at kp
          go_wp2_with fail
          refine kp.mono ?_
          intro e w8 hp
          obtain ⟨hbel, hcs⟩ := full_put HQ.out.1 HR.out.2.1 HR.out.2.2.1 hp (by omega) (by have := HB.out.len; omega) HV20.out (by have := HR.out.2.2.2.2.2.1; omega)
          have B8 : Aside (Below w.heap.size w w8) := HQ.out.2.trans (hbel _ HQ.out.2.size (by rw [HJ.out.2.1]; exact HL.out.1) (by rw [HJ.out.2.2.1]; exact HL.out.2.1) (by rw [HJ.out.2.2.2.1]; exact HL.out.2.2) (by rw [HJ.out.1]; exact HN3.out))
          have hln := HB.out.len
          have hs1 := HR.out.2.2.2.1
          have hs2 := HR.out.2.2.2.2.1
          clear kp hp hbel
          rcases hcs with ⟨hf, rfl, hb⟩ | ⟨hf, rfl, G1, s1, hj1, _, _, _, _, _, _⟩
          · have hroom : (M2 : Int) - (n : Int) < (n2 : Int) + 7 := by omega
            have hj8 := HQ.out.1.below hb
            have H8 : Aside _ := hj8
            have kz := psize_f w8 pa g (J.fi 0) (J.co 0) (J.be 0) (J.si 0) (by have := hj8.part 0 (by omega); rw [HJ.out.2.2.2.2.1, HJ.out.2.1] at this; exact this)
            rw [HJ.out.2.2.2.2.2, HM2.out] at kz
            clear hf hb hln hs1 hs2 hj8
            go_wp2_with fail
            refine kz.mono ?_
            rintro e w9 ⟨rfl, hw⟩
            obtain rfl := hw.symm
            clear kz hw
            have kt := turned_f w8 g bb wb F (by have := H8.out.fl; rw [HJ.out.2.1, HJ.out.2.2.1, HJ.out.2.2.2.1] at this; exact this)
            rw [HT.out] at kt
            go_wp2_with fail
            refine kt.mono ?_
            rintro e w9 ⟨rfl, hw⟩
            obtain rfl := hw.symm
            clear kt hw
            go_wp2
            go_ret
            exact ⟨rfl, B8.out⟩
          · have hroom : ¬ (M2 : Int) - (n : Int) < (n2 : Int) + 7 := by omega
            have kz := psize_f w8 pa g (J.fi 0) (J.co 0) (J.be 0) (J.si 0) (by have := hj1.part 0 (by omega); rw [HJ.out.2.2.2.2.1, HJ.out.2.1] at this; exact this)
            rw [HJ.out.2.2.2.2.2, HM2.out] at kz
            clear hf hj1 hln hs1 hs2
            go_wp2_with fail
            refine kz.mono ?_
            rintro e w9 ⟨rfl, hw⟩
            obtain rfl := hw.symm
            clear kz hw
            go_wp2
            go_ret
            exact ⟨rfl, B8.out⟩
end Go.Proofs.Ytiieianbmldnbaa
