/-
  The document's writing of options.
-/
import Derived.Test.YtihicplembaoeaaOptRSorted
import Derived.Test.YtihicplembaoeaaJoin
namespace Go.Proofs.Ytihicplembaoeaa
open Go.RowKit
set_option maxRecDepth 100000
set_option linter.unusedVariables false
def TellPost (m : Nat) (w : World) (e : Ending) (w' : World) : Prop :=
  ∃ v, e = .returned (.tuple #[.int .i64 ((tl m).1 : Int), v]) ∧ w'.ownsRow w.heap.size 5 1 v (tl m).2.length (U8 (tl m).2) ∧ Below w.heap.size w w'
set_option maxHeartbeats 1000000 in
theorem rtell_f (m : Nat) (hm : m ≤ 65804) (w : World) : Calls Try.prog 54 #[.int .i64 m] w (TellPost m w) := by
  by_cases h2 : m < 13
  · have ht : tl m = (m, []) := by unfold tl; rw [if_pos h2]
    have hI3 : (m : Int) < 13 := by omega
    have HT := Lib.hid ht
    clear ht h2
    go_enter Try.func54, Try.ntmps54
    go_wp2
    go_ret2
    refine ⟨.slice (some ⟨w.heap.size, 0, none⟩) 0 0, ?_, ?_, alloc_below w _⟩
    · rw [HT.out]; rfl
    · rw [HT.out]; exact own_lit w _ [] rfl (by simp)
  · by_cases h1 : m < 269
    · have ht : tl m = (13, [UInt8.ofNat (m - 13)]) := by unfold tl; rw [if_neg (by omega), if_pos (by omega)]
      have hI2 : ¬ (m : Int) < 13 := by omega
      have hI3 : (m : Int) < 269 := by omega
      have HT := Lib.hid ht
      obtain ⟨z, hz⟩ : ∃ z : Nat, z = m - 13 := ⟨_, rfl⟩
      have hzI : (m : Int) - 13 = (z : Int) := by omega
      have hzb : (z : Int) < 256 := by omega
      have hc : ∀ cs : Array Value, cs = #[.int .u8 (z : Int)] → cs.toList = U8 [UInt8.ofNat (m - 13)] := by
        rintro cs rfl
        simp only [U8, List.map_cons, List.map_nil]
        rw [nbyte (by omega), ← hz]
      have HC := Lib.hid hc
      clear ht hc h1 h2 hz
      go_enter Try.func54, Try.ntmps54
      go_wp2
      go_ret2
      refine ⟨.slice (some ⟨w.heap.size, 0, none⟩) 1 1, ?_, ?_, alloc_below w _⟩
      · rw [HT.out]; rfl
      · rw [HT.out]
        exact own_lit w _ _ (HC.out _ rfl) (by simp)
    · have ht : tl m = (14, [UInt8.ofNat ((m - 269) / 256), UInt8.ofNat ((m - 269) % 256)]) := by unfold tl; rw [if_neg (by omega), if_neg (by omega)]
      have hI0 : ¬ (m : Int) < 13 := by omega
      have hI : ¬ (m : Int) < 269 := by omega
      have hI2 : (m : Int) ≤ 65804 := by omega
      obtain ⟨z, hz⟩ : ∃ z : Nat, z = m - 269 := ⟨_, rfl⟩
      have hzI : (m : Int) - 269 = (z : Int) := by omega
      have hzb : (z : Int) ≤ 65535 := by omega
      have hc : ∀ cs : Array Value, cs = #[.int .u8 ((z : Int) / 256), .int .u8 ((z : Int) % 256)] → cs.toList = U8 [UInt8.ofNat ((m - 269) / 256), UInt8.ofNat ((m - 269) % 256)] := by
        rintro cs rfl
        simp only [U8, List.map_cons, List.map_nil]
        rw [nbyte (by omega), nbyte (by omega), ← hz]
        rfl
      have HT := Lib.hid ht
      have HC := Lib.hid hc
      clear ht hz hc h1 h2
      go_enter Try.func54, Try.ntmps54
      go_wp2
      go_ret2
      refine ⟨.slice (some ⟨w.heap.size, 0, none⟩) 2 2, ?_, ?_, alloc_below w _⟩
      · rw [HT.out]; rfl
      · rw [HT.out]
        exact own_lit w _ _ (HC.out _ (by first | rfl | simp)) (by simp)
theorem own_bs {w : World} {base n : Nat} {v : Value} {l : List UInt8} (h : w.ownsRow base 5 1 v n (U8 l)) : ∃ A c, v = .slice A n c ∧ n ≤ c ∧ Bs w w.heap.size A n l := by
  obtain ⟨A, c, e, hc, hb⟩ := Bs.of_own h
  exact ⟨A, c, e, hc, hb⟩
theorem Ps.five (w : World) (B : Nat) (t : TypeId) (A1 A2 A3 A4 A5 : Option Addr) (n1 n2 n3 n4 n5 c1 c2 c3 c4 c5 : Nat) (l1 l2 l3 l4 l5 : List UInt8) (fr : Nat × Nat) (h1 : Bs w B A1 n1 l1) (h2 : Bs w B A2 n2 l2) (h3 : Bs w B A3 n3 l3) (h4 : Bs w B A4 n4 l4) (h5 : Bs w B A5 n5 l5) (hB : B ≤ w.heap.size) :
    Ps (w.alloc (.cells #[.slice A1 n1 c1, .slice A2 n2 c2, .slice A3 n3 c3, .slice A4 n4 c4, .slice A5 n5 c5] t fr)) (w.heap.size + 1) (some ⟨w.heap.size, 0, none⟩) 5 [l1, l2, l3, l4, l5] := by
  have hal := alloc_below w (.cells #[.slice A1 n1 c1, .slice A2 n2 c2, .slice A3 n3 c3, .slice A4 n4 c4, .slice A5 n5 c5] t fr)
  have up : ∀ {A : Option Addr} {n : Nat} {l : List UInt8}, Bs w B A n l → Bs (w.alloc (.cells #[.slice A1 n1 c1, .slice A2 n2 c2, .slice A3 n3 c3, .slice A4 n4 c4, .slice A5 n5 c5] t fr)) (w.heap.size + 1) A n l := fun h => (h.below' hal hB).more (by omega)
  refine ⟨rfl, fun _ => ⟨w.heap.size, 0, rfl, by omega, fun k l hl => ?_⟩⟩
  have hcell : ∀ j : Nat, (w.alloc (.cells #[.slice A1 n1 c1, .slice A2 n2 c2, .slice A3 n3 c3, .slice A4 n4 c4, .slice A5 n5 c5] t fr)).cell? ⟨w.heap.size, j, none⟩ = (#[Value.slice A1 n1 c1, .slice A2 n2 c2, .slice A3 n3 c3, .slice A4 n4 c4, .slice A5 n5 c5])[j]? := fun j => cell_of_row _ _ _ _ _ _ (heap_alloc_new w _)
  rw [Nat.zero_add]
  match k, hl with
  | 0, hl => obtain rfl := Option.some.inj hl; exact ⟨A1, n1, c1, hcell 0, up h1⟩
  | 1, hl => obtain rfl := Option.some.inj hl; exact ⟨A2, n2, c2, hcell 1, up h2⟩
  | 2, hl => obtain rfl := Option.some.inj hl; exact ⟨A3, n3, c3, hcell 2, up h3⟩
  | 3, hl => obtain rfl := Option.some.inj hl; exact ⟨A4, n4, c4, hcell 3, up h4⟩
  | 4, hl => obtain rfl := Option.some.inj hl; exact ⟨A5, n5, c5, hcell 4, up h5⟩
  | k + 5, hl => simp at hl
theorem badNum_iff (k : Int) : badNum k = true ↔ k < 0 ∨ 65535 < k := by unfold badNum; simp
theorem any_none {α : Type} {p : α → Bool} {l : List α} : l.any p = false ↔ ∀ x ∈ l, p x = false := by
  rw [List.any_eq_false]
  exact ⟨fun h x hx => by simpa using h x hx, fun h x hx => by simp [h x hx]⟩
set_option maxHeartbeats 2000000 in
theorem rwrite_f (A : Option Addr) (n c : Nat) (vs : List Sv) (ps : List (Int × List UInt8)) (w : World) (hos : Os w w.heap.size A n vs ps) (hn : (n : Int) ≤ 9223372036854775807) :
    Calls Try.prog 17 #[.slice A n c] w (WrRet (wrP ps) w) := by
  have hpl := hos.plen
  by_cases h24 : (24 : Int) < n
  · have he : errP ps = 3 := by unfold errP; rw [if_pos (by omega)]
    have hw : wrP ps = ([], 3) := by unfold wrP; rw [he, if_neg (by decide)]
    have HW := Lib.hid hw
    clear hos hpl he hw
    go_enter Try.func17, Try.ntmps17
    go_wp2
    go_ret2
    unfold WrRet
    rw [HW.out]
    exact ⟨none, 0, 0, rfl, ⟨Nat.le_refl _, Nat.zero_le _⟩, rfl, Bs.empty _ _ _, Below.refl _ _⟩
  · have hn24 : (n : Int) ≤ 24 := by omega
    have HO := Lib.hid (And.intro hos hpl)
    clear hos hpl
    go_enter Try.func17, Try.ntmps17
    go_wp2
    go_loop [4] (fun i => ∃ k : Nat, k ≤ n ∧ i = .int .i64 k ∧ Hid (∀ x ∈ ps.take k, badNum x.1 = false)) (fun i => n - (intOf i).toNat)
    case atStart => exact ⟨0, by omega, rfl, fun x hx => by simp at hx⟩
    case round =>
      obtain ⟨k, hk, rfl, hall⟩ := hrel
      by_cases hlt : k < n
      · obtain ⟨b, off, rfl, hb, hc⟩ := HO.out.1.sh.place (by omega)
        obtain ⟨s, hs⟩ := sv_get HO.out.1.sh hlt
        obtain ⟨l, hl, hbs⟩ := HO.out.1.get hs
        have c0 := (hc k s hs).1
        obtain ⟨sk, sA, sn, sc⟩ := s
        dsimp only at c0 hl
        have hltI : (k : Int) < n := by omega
        by_cases hbad : badNum sk = true
        · have he : errP ps = 1 := by
            unfold errP
            rw [if_neg (by have := HO.out.2; omega), if_pos]
            exact List.any_eq_true.2 ⟨_, List.mem_of_getElem? hl, hbad⟩
          have hw : wrP ps = ([], 1) := by unfold wrP; rw [he, if_neg (by decide)]
          have HW := Lib.hid hw
          rcases (badNum_iff sk).1 hbad with h | h
          · clear hc hs hl hbs he hw hbad
            go_wp2
            go_ret2
            unfold WrRet
            rw [HW.out]
            exact ⟨none, 0, 0, rfl, ⟨Nat.le_refl _, Nat.zero_le _⟩, rfl, Bs.empty _ _ _, Below.refl _ _⟩
          · have h0 : ¬ sk < 0 := by omega
            clear hc hs hl hbs he hw hbad
            go_wp2
            go_ret2
            unfold WrRet
            rw [HW.out]
            exact ⟨none, 0, 0, rfl, ⟨Nat.le_refl _, Nat.zero_le _⟩, rfl, Bs.empty _ _ _, Below.refl _ _⟩
        · have h0 : ¬ sk < 0 := fun e => hbad ((badNum_iff sk).2 (.inl e))
          have h1 : ¬ 65535 < sk := fun e => hbad ((badNum_iff sk).2 (.inr e))
          have HS : Hid (∀ x ∈ ps.take (k + 1), badNum x.1 = false) := Lib.hid (fun x hx => by
            rw [List.take_add_one, hl] at hx
            rcases List.mem_append.1 hx with h | h
            · exact hall.out x h
            · obtain rfl := List.mem_singleton.1 h
              show badNum sk = false
              simpa using hbad)
          clear hc hs hl hbs hbad
          go_wp2
          go_round
          case rel => exact ⟨k + 1, by omega, by go_num, HS⟩
          case measure => simp [intOf]; omega
      · obtain rfl : k = n := by omega
        rw [List.take_of_length_le (by have := HO.out.2; omega)] at hall
        go_wp2
        go_loop [5] (fun i => ∃ j : Nat, j ≤ k ∧ i = .int .i64 j ∧ Hid (∀ x ∈ ps.take j, x.2.length ≤ 300)) (fun i => k - (intOf i).toNat)
        case atStart => exact ⟨0, by omega, rfl, fun x hx => by simp at hx⟩
        case round =>
          obtain ⟨j, hj, rfl, hall2⟩ := hrel
          by_cases hlt2 : j < k
          · obtain ⟨b, off, rfl, hb, hc⟩ := HO.out.1.sh.place (by omega)
            obtain ⟨s, hs⟩ := sv_get HO.out.1.sh hlt2
            obtain ⟨l, hl, hbs⟩ := HO.out.1.get hs
            have c1 := (hc j s hs).2
            have hsl := hbs.len
            obtain ⟨sk, sA, sn, sc⟩ := s
            dsimp only at c1 hl hsl
            have hltI : (j : Int) < k := by omega
            by_cases hbad : (300 : Int) < sn
            · have he : errP ps = 2 := by
                unfold errP
                rw [if_neg (by have := HO.out.2; omega), if_neg, if_pos]
                · exact List.any_eq_true.2 ⟨_, List.mem_of_getElem? hl, decide_eq_true (by show (300 : Int) < (l.length : Int); omega)⟩
                · intro e
                  obtain ⟨x, hx, hxb⟩ := List.any_eq_true.1 e
                  rw [hall.out x hx] at hxb
                  exact absurd hxb (by decide)
              have hw : wrP ps = ([], 2) := by unfold wrP; rw [he, if_neg (by decide)]
              have HW := Lib.hid hw
              clear hc hs hl hbs he hw hsl
              go_wp2
              go_ret2
              unfold WrRet
              rw [HW.out]
              exact ⟨none, 0, 0, rfl, ⟨Nat.le_refl _, Nat.zero_le _⟩, rfl, Bs.empty _ _ _, Below.refl _ _⟩
            · have HS : Hid (∀ x ∈ ps.take (j + 1), x.2.length ≤ 300) := Lib.hid (fun x hx => by
                rw [List.take_add_one, hl] at hx
                rcases List.mem_append.1 hx with h | h
                · exact hall2.out x h
                · obtain rfl := List.mem_singleton.1 h
                  show l.length ≤ 300
                  omega)
              clear hc hs hl hbs hsl
              go_wp2
              go_round
              case rel => exact ⟨j + 1, by omega, by go_num, HS⟩
              case measure => simp [intOf]; omega
          · obtain rfl : j = k := by omega
            rw [List.take_of_length_le (by have := HO.out.2; omega)] at hall2
            have he : errP ps = 0 := by
              unfold errP
              rw [if_neg (by have := HO.out.2; omega), if_neg, if_neg]
              · intro e
                obtain ⟨x, hx, hxb⟩ := List.any_eq_true.1 e
                have h1 := hall2.out x hx
                have h2 := of_decide_eq_true hxb
                omega
              · intro e
                obtain ⟨x, hx, hxb⟩ := List.any_eq_true.1 e
                rw [hall.out x hx] at hxb
                exact absurd hxb (by decide)
            obtain ⟨P, hP⟩ : ∃ P, sortP ps = P := ⟨_, rfl⟩
            have hw : wrP ps = ((wrF P).1, 0) := by unfold wrP; rw [he, if_pos rfl, hP]
            have hok : Okp P := by
              have := (errOf_ok HO.out.1 (by rw [errOf_eq HO.out.1]; exact he)).1
              rw [sortS_map, HO.out.1.eq, hP] at this
              exact this
            have hPl : P.length = j := by rw [← hP, sortP_len]; exact HO.out.2
            have hso := rsorted_f A j c vs ps w HO.out.1 (by omega) (fun x hx => Nat.le_trans (hall2.out x hx) (by omega))
            rw [hP] at hso
            have HX := Lib.hid (And.intro hw (And.intro hok hPl))
            clear hall hall2 he hP hw hok hPl hlt2
            go_wp2_with fail
            refine hso.mono ?_
            rintro e w5 ⟨A5, n5, c5, us5, rfl, hc5, hn5, hos5, b5⟩
            obtain rfl : j = n5 := by rw [hn5.out, HX.out.2.2]
            have H5 := Lib.hid (And.intro hos5 b5)
            have h0 : Bs (w5.alloc (.cells #[] 5)) (w5.alloc (.cells #[] 5)).heap.size (some ⟨w5.heap.size, 0, none⟩) 0 (wrF (P.take 0)).1 := Bs.empty _ _ _
            have H0 := Lib.hid h0
            clear hc5 hn5 hos5 b5 hso h0
            go_wp2_with fail
            go_loopw [7, 8, 9, 10, 11, 12, 13] (fun v la i _ _ _ _ wr => ∃ (k m : Nat) (A' : Option Addr) (c' : Nat), k ≤ j ∧ i = .int .i64 k ∧ la = .int .i64 (wrF (P.take k)).2 ∧ v = .slice A' m c' ∧ Hid (Bs wr wr.heap.size A' m (wrF (P.take k)).1 ∧ (m ≤ c' ∧ c' ≤ maxLen) ∧ Below w5.heap.size w5 wr)) (fun _ _ i _ _ _ _ _ => j - (intOf i).toNat)
            case atStart => exact ⟨0, 0, _, 0, by omega, rfl, rfl, rfl, Lib.hid ⟨H0.out, ⟨Nat.le_refl _, Nat.zero_le _⟩, alloc_below w5 _⟩⟩
            case round =>
              obtain ⟨k, m, A', c', hk, rfl, rfl, rfl, hst⟩ := hrel
              by_cases hlt : k < j
              · obtain ⟨hbs0, hmc, hbr⟩ := hst.out
                obtain ⟨hw, hok, hPl⟩ := HX.out
                have hosr := H5.out.1.below' hbr (Nat.le_refl _)
                obtain ⟨b, off, rfl, hb, hc⟩ := hosr.sh.place (by omega)
                obtain ⟨s, hs⟩ := sv_get hosr.sh hlt
                obtain ⟨l, hl, hbs⟩ := hosr.get hs
                have hsl := hbs.len
                obtain ⟨hle, hge⟩ := okp_next hok hl
                obtain ⟨hx0, hx1, hx2⟩ := hok.2 _ (List.mem_of_getElem? hl)
                have htk : P.take (k + 1) = P.take k ++ [(s.k, l)] := by rw [List.take_add_one, hl]; rfl
                have hstep : wrF (P.take (k + 1)) = wrStep (wrF (P.take k)) (s.k, l) := by rw [htk, wrF_snoc]
                have hlen := wrF_len (ps := P.take k) (fun x hx => (hok.2 x (List.mem_of_mem_take hx)).2.2)
                have hpk : (P.take k).length ≤ 24 := by rw [List.length_take]; omega
                have hm0 := hbs0.len
                have hrg : ∀ W, Below wr.heap.size wr W → W.rangeAt b (off + k * 2) [.int .i64 s.k, .slice s.A s.n s.c] := fun W h => (hosr.below' h hbr.size).sh.range hs
                have hbsl : ∀ W, Below wr.heap.size wr W → Bs W wr.heap.size s.A s.n l := fun W h => (hbs.below' h hbr.size).more hbr.size
                obtain ⟨⟨L0, la⟩, hacc⟩ : ∃ r, wrF (P.take k) = r := ⟨_, rfl⟩
                rw [hacc] at hle hge hstep hbs0 hlen hm0 ⊢
                dsimp only at hle hge hstep hbs0 hlen hm0 hx0 hx1 hx2 ⊢
                obtain ⟨sk, sA, sn, sc⟩ := s
                dsimp only at hle hge hstep hrg hbsl hsl hx0 hx1 hx2
                obtain ⟨dd, hdd⟩ : ∃ dd : Nat, (sk - la).toNat = dd := ⟨_, rfl⟩
                have hddI : sk - la = (dd : Int) := by omega
                have hdd1 : (dd : Int) ≤ 65535 := by omega
                obtain ⟨⟨t1, L1⟩, ht1⟩ : ∃ r, tl dd = r := ⟨_, rfl⟩
                obtain ⟨⟨t2, L2⟩, ht2⟩ : ∃ r, tl l.length = r := ⟨_, rfl⟩
                have g1 := tl_bd dd
                have g2 := tl_bd l.length
                rw [ht1] at g1
                rw [ht2] at g2
                dsimp only at g1 g2
                have k1 := fun W => rtell_f dd (by omega) W
                have k2 := fun W => rtell_f sn (by omega) W
                unfold TellPost at k1 k2
                rw [ht1] at k1
                rw [← hsl, ht2] at k2
                rw [hsl] at k2
                dsimp only at k1 k2
                obtain ⟨bb, hbb⟩ : ∃ bb : Nat, bb = t1 * 16 + t2 := ⟨_, rfl⟩
                have hbbI : (t1 : Int) * 16 + (t2 : Int) = (bb : Int) := by omega
                have hbb1 : (bb : Int) < 256 := by omega
                have hoB : optB dd l = UInt8.ofNat bb :: (L1 ++ L2 ++ l) := by unfold optB; rw [ht1, ht2, hbb]
                have hbyte : (#[Value.int .u8 (bb : Int)] : Array Value).toList = U8 [UInt8.ofNat bb] := by
                  simp only [U8, List.map_cons, List.map_nil]
                  rw [nbyte (by omega)]
                unfold wrStep at hstep
                dsimp only at hstep
                rw [hdd, hoB] at hstep
                have q0 : wr.cell? ⟨b, off + k * 2, none⟩ = some (.int .i64 sk) := hrg wr (Below.refl _ _) 0 _ rfl
                have hkI : (k : Int) < j := by omega
                have hla0 : 0 ≤ la := hge
                have hskb : sk ≤ 65535 := hx1
                have hsub : la ≤ sk := hle
                have HK := Lib.hid (And.intro k1 k2)
                have HY := Lib.hid (And.intro hbs0 (And.intro hmc (And.intro hbr (And.intro hrg (And.intro hbsl (And.intro hstep (And.intro hlen (And.intro hpk (And.intro hm0 (And.intro hsl (And.intro g1 (And.intro g2 (And.intro hbyte (And.intro hx2 hbb))))))))))))))
                have hr0 := hbr.size
                clear hbs0 hmc hbr hrg hbsl hstep hlen hpk hm0 hsl g1 g2 hbyte hx2 hbb k1 k2 hw hok hPl hosr hb hc hs hl hbs hle hge hx0 hx1 htk hacc hdd ht1 ht2 hoB hst
                go_wp2_with fail
                refine (HK.out.1 _).mono ?_
                rintro e w6 ⟨v1, rfl, ho1, b1⟩
                obtain ⟨A1, c1, rfl, _, hb1⟩ := Bs.of_own ho1
                have q61 : w6.cell? ⟨b, off + k * 2 + 1, none⟩ = some (.slice sA sn sc) := HY.out.2.2.2.1 w6 b1 1 _ rfl
                have H6 := Lib.hid (And.intro hb1 b1)
                clear ho1 b1 hb1 q0
                go_wp2_with fail
                refine (HK.out.2 _).mono ?_
                rintro e w7 ⟨v2, rfl, ho2, b2⟩
                obtain ⟨A2, c2, rfl, _, hb2⟩ := Bs.of_own ho2
                have B7 := H6.out.2.trans (b2.mono H6.out.2.size)
                have q71 : w7.cell? ⟨b, off + k * 2 + 1, none⟩ = some (.slice sA sn sc) := HY.out.2.2.2.1 w7 B7 1 _ rfl
                have hbl : b < w7.heap.size := World.block_lt_of_cell? _ _ q71
                have H7 := Lib.hid (And.intro ((H6.out.1.below b2).more b2.size) (And.intro hb2 B7))
                clear ho2 b2 hb2 q61 B7
                go_wp2_with fail
                have hal := alloc_below w7 (.cells #[.int .u8 (bb : Int)] 5)
                have hps := Ps.five (w7.alloc (.cells #[.int .u8 (bb : Int)] 5)) (w7.heap.size + 1) 25 A' (some ⟨w7.heap.size, 0, none⟩) A1 A2 sA m 1 L1.length L2.length sn c' 1 c1 c2 sc L0 [UInt8.ofNat bb] L1 L2 l (0, 0)
                  ((((HY.out.1.below H7.out.2.2).more H7.out.2.2.size).below hal).more (by omega)) (Bs.lit_ w7 5 _ _ [UInt8.ofNat bb] HY.out.2.2.2.2.2.2.2.2.2.2.2.2.1) ((H7.out.1.below hal).more (by omega)) ((H7.out.2.1.below hal).more (by omega)) ((((HY.out.2.2.2.2.1 w7 H7.out.2.2).more H7.out.2.2.size).below hal).more (by omega)) (by rw [alloc_size]; exact Nat.le_refl _)
                rw [alloc_size] at hps
                have hjn := join_any _ 5 5 _ _ _ hps (by rw [alloc_size, alloc_size]; exact Nat.le_refl _) (by omega) (by
                  obtain ⟨_, _, _, _, _, _, hlen, hpk, hm0, hsl, g1, g2, _, hx2, _⟩ := HY.out
                  simp only [List.flatten_cons, List.flatten_nil, List.length_append, List.length_cons, List.length_nil]
                  omega)
                refine hjn.mono ?_
                intro e w8 h8
                obtain ⟨u8, rfl, ho8, b8⟩ := h8
                obtain ⟨A8, c8, rfl, hc8, hb8⟩ := own_bs ho8
                have hcm8 := row_cap ho8
                obtain ⟨n8, hn8⟩ : ∃ n8, [L0, [UInt8.ofNat bb], L1, L2, l].flatten.length = n8 := ⟨_, rfl⟩
                rw [hn8] at hc8 hb8 ⊢
                have hal2 := alloc_below (w7.alloc (.cells #[.int .u8 (bb : Int)] 5)) (.cells #[.slice A' m c', .slice (some ⟨w7.heap.size, 0, none⟩) 1 1, .slice A1 L1.length c1, .slice A2 L2.length c2, .slice sA sn sc] 25)
                have B8 : Below wr.heap.size wr w8 := by
                  have h1 := H7.out.2.2.trans (hal.mono H7.out.2.2.size)
                  have h2 := h1.trans (hal2.mono h1.size)
                  exact h2.trans (b8.mono h2.size)
                have q80 : w8.cell? ⟨b, off + k * 2, none⟩ = some (.int .i64 sk) := HY.out.2.2.2.1 w8 B8 0 _ rfl
                have H8 := Lib.hid (And.intro hb8 (And.intro (And.intro hc8 hcm8) B8))
                clear ho8 hc8 hcm8 hn8 hb8 b8 hal hal2 B8 hps hjn q71
                go_wp2_with fail
                go_roundw
                case rel =>
                  obtain ⟨hbs0, hmc, hbr, hrg, hbsl, hstep, _⟩ := HY.out
                  refine ⟨k + 1, n8, A8, c8, by omega, by go_num, by rw [hstep], rfl, Lib.hid ⟨?_, H8.out.2.1, hbr.trans (H8.out.2.2.mono hbr.size)⟩⟩
                  rw [hstep]
                  have := H8.out.1
                  simpa using this
                case measure => simp [intOf]; omega
              · obtain rfl : k = j := by omega
                obtain ⟨hbs0, hmc, hbr⟩ := hst.out
                obtain ⟨hw, hok, hPl⟩ := HX.out
                rw [List.take_of_length_le (by omega)] at hbs0
                have hm0 := hbs0.len
                have HY := Lib.hid (And.intro hbs0 (And.intro hmc (And.intro (H5.out.2.trans (hbr.mono H5.out.2.size)) (And.intro hw hm0))))
                clear hbs0 hmc hbr hw hok hPl hm0 hst
                go_wp2
                go_ret2
                unfold WrRet
                rw [HY.out.2.2.2.1]
                exact ⟨A', m, c', rfl, HY.out.2.1, HY.out.2.2.2.2.symm, HY.out.1, HY.out.2.2.1⟩
end Go.Proofs.Ytihicplembaoeaa
