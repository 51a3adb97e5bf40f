/-
  journal.check, turn as one contract, Drop.
-/
import Derived.Test.YtpdlipkmojhnnaaJournalTurn2
namespace Go.Proofs.Ytpdlipkmojhnnaa
open Go.RowKit Go.Maps Go.Shelf
set_option maxRecDepth 100000
/-- What turn leaves. -/
def TurnPost (W : World) (J : JP) (F : Fl) (s : JS) (pn : Option Nat) (V : Int → Option (List UInt8)) (b : List UInt8) (e : Ending) (w' : World) : Prop :=
  if s.size < sizeAll V then e = .returned (.int .i64 6) ∧ Below W.heap.size W w'
  else if s.size < b.length + 1 + s.en then ∃ w1, Below W.heap.size W w1 ∧ ((s.ep = 4294967295 ∧ e = .returned (.int .i64 3) ∧ w' = w1) ∨
      (s.ep ≠ 4294967295 ∧ LayPost w1.drew J.jb (1 - s.cnt) J.g J.bb J.wb (J.fi (1 - s.cnt)) (J.be (1 - s.cnt)) (J.si (1 - s.cnt)) (J.co (1 - s.cnt)) F pn V (s.ep + 1) e w'))
  else ∃ F' en' ec w1, jwrote F (J.be s.cnt) (J.si s.cnt) s.en b = (F', en', ec) ∧ e = .returned (.int .i64 ec) ∧ FlashAt w' J.g J.bb J.wb F' ∧ But3 W.heap.size J.g J.bb J.wb W w1 ∧
      w' = (if ec = 0 then w1.setCells J.jb 5 [.int .i64 en', .map pn] else w1)
theorem jturn_f (W : World) (J : JP) (F : Fl) (s : JS) (h : JAt W J F s) (pn : Option Nat) (D : DataW Value) (V : Int → Option (List UInt8)) (hV : Vals W J.lo pn D V) (A : Option Addr) (n c : Nat) (b : List UInt8) (hb : Bs W W.heap.size A n b) (hoff : 0 < n → Off J.g A ∧ Off J.bb A ∧ Off J.wb A) (hcap : n ≤ c) (hn : (n : Int) ≤ 262144) :
    Calls Try.prog 29 #[.pointer (some ⟨J.jb, 0, none⟩), .map pn, .slice A n c] W (TurnPost W J F s pn V b) := by
  have hl := hb.len
  unfold TurnPost
  by_cases h1 : s.size < sizeAll V
  · simp only [if_pos h1]
    exact turn_full W J F s h pn D V hV A n c h1
  · simp only [if_neg h1]
    by_cases h2 : s.size < b.length + 1 + s.en
    · simp only [if_pos h2]
      exact turn_moves W J F s h pn D V hV A n c (by omega) (by omega) hn
    · simp only [if_neg h2]
      exact turn_writes W J F s h pn D V hV A n c b hb hoff hcap (by omega) (by omega) hn
theorem TurnPost.returns {W : World} {J : JP} {F : Fl} {s : JS} {pn : Option Nat} {V : Int → Option (List UInt8)} {b : List UInt8} {e : Ending} {w' : World} (h : TurnPost W J F s pn V b e w') : ∃ ec : Int, e = .returned (.int .i64 ec) := by
  unfold TurnPost at h
  split at h
  · exact ⟨6, h.1⟩
  · split at h
    · obtain ⟨_, _, ⟨_, he, _⟩ | ⟨_, hp⟩⟩ := h
      · exact ⟨3, he⟩
      · obtain ⟨_, _, _, _, ec, _, _, he, _⟩ := hp
        exact ⟨ec, he⟩
    · obtain ⟨_, _, ec, _, _, he, _⟩ := h
      exact ⟨ec, he⟩
/-- The error of a key. -/
def jck (F : Fl) (key : Int) : Int := if F.down = true then 30 else if key < 0 ∨ 32 ≤ key then 1 else 0
set_option maxRecDepth 100000 in
theorem jcheck_f (W : World) (J : JP) (F : Fl) (s : JS) (h : JAt W J F s) (key : Int) (h1 : -9223372036854775808 ≤ key) (h2 : key ≤ 9223372036854775807) :
    Calls Try.prog 26 #[.pointer (some ⟨J.jb, 0, none⟩), .int .i64 key] W fun e w' => e = .returned (.int .i64 (jck F key)) ∧ Below W.heap.size W w' := by
  have kd := jdown_f W J.jb (J.pp 0) (J.pp 1) J.g J.bb J.wb (J.fi 0) (J.co 0) (J.be 0) (J.si 0) (J.fi 1) (J.co 1) (J.be 1) (J.si 1) F (h.c0 0 (by omega)) (h.c0 1 (by omega)) (h.part 0 (by omega)) (h.part 1 (by omega)) h.fl ((h.ok 0 (by omega)).fits h.fl.ok) ((h.ok 1 (by omega)).fits h.fl.ok)
  unfold jck
  clear h
  generalize F.down = dn at *
  cases dn with
  | true =>
    go_enter Try.func26, Try.ntmps26
    go_wp2_with fail
    refine kd.mono ?_
    rintro e w1 ⟨rfl, hb⟩
    go_wp2
    go_ret
    exact ⟨rfl, hb⟩
  | false =>
    by_cases k0 : key < 0
    · have e1 : (if (false = true) then (30 : Int) else if key < 0 ∨ 32 ≤ key then 1 else 0) = 1 := by rw [if_neg (by decide), if_pos (.inl k0)]
      rw [e1]
      go_enter Try.func26, Try.ntmps26
      go_wp2_with fail
      refine kd.mono ?_
      rintro e w1 ⟨rfl, hb⟩
      go_wp2
      go_ret
      exact ⟨rfl, hb⟩
    · by_cases k1 : 32 ≤ key
      · have e1 : (if (false = true) then (30 : Int) else if key < 0 ∨ 32 ≤ key then 1 else 0) = 1 := by rw [if_neg (by decide), if_pos (.inr k1)]
        rw [e1]
        go_enter Try.func26, Try.ntmps26
        go_wp2_with fail
        refine kd.mono ?_
        rintro e w1 ⟨rfl, hb⟩
        go_wp2
        go_ret
        exact ⟨rfl, hb⟩
      · have e1 : (if (false = true) then (30 : Int) else if key < 0 ∨ 32 ≤ key then 1 else 0) = 0 := by rw [if_neg (by decide), if_neg (by omega)]
        rw [e1]
        go_enter Try.func26, Try.ntmps26
        go_wp2_with fail
        refine kd.mono ?_
        rintro e w1 ⟨rfl, hb⟩
        go_wp2
        go_ret
        exact ⟨rfl, hb⟩
/-- What Drop leaves. -/
def DropPost (W : World) (J : JP) (F : Fl) (s : JS) (key : Int) (e : Ending) (w' : World) : Prop :=
  if jck F key ≠ 0 then e = .returned (.int .i64 (jck F key)) ∧ Below W.heap.size W w'
  else if (s.V key).isSome = false then e = .returned (.int .i64 4) ∧ Below W.heap.size W w'
  else ∃ w1 b D', Below W.heap.size W w1 ∧ Vals w1 J.lo (some b) D' (dropV s.V key) ∧ TurnPost w1 J F s (some b) (dropV s.V key) (seals [UInt8.ofNat key.toNat, 254]) e w'
set_option maxRecDepth 100000 in
theorem drop_f (W : World) (J : JP) (F : Fl) (s : JS) (h : JAt W J F s) (key : Int) (h1 : -9223372036854775808 ≤ key) (h2 : key ≤ 9223372036854775807) :
    Calls Try.prog 11 #[.pointer (some ⟨J.jb, 0, none⟩), .int .i64 key] W (DropPost W J F s key) := by
  have kc := jcheck_f W J F s h key h1 h2
  unfold DropPost
  by_cases hc : jck F key = 0
  · rw [hc] at kc
    simp only [hc, ne_eq, not_true_eq_false, if_false]
    have hk0 : 0 ≤ key ∧ key < 32 := by
      unfold jck at hc
      split at hc
      · omega
      · split at hc
        · omega
        · omega
    have hwf := key_wf hk0.1 hk0.2
    have HJ : Aside _ := h
    have hroom : Maps.size s.D ≤ maxLen := by have := vals_size h.vals; have := keysOf_length s.V; have : (32 : Nat) ≤ maxLen := by decide
                                              omega
    cases hV : (s.V key).isSome with
    | false =>
      simp only [if_true]
      have kl : Aside (∀ w1, Below W.heap.size W w1 → w1.cell? ⟨J.jb, 6, none⟩ = some (.map s.pv) ∧ ∃ v, (Instr.lookup 57 (.map s.pv) (.int .i64 key) true).run Try.prog w1 = .ok (.tuple #[v, .bool false]) w1) := fun w1 hb => by
        have h' := HJ.out.below hb
        obtain ⟨v, hr, _⟩ := hdr_look h'.vals.src key hwf
        rw [h'.vals.has key, hV] at hr
        exact ⟨h'.c6, v, hr⟩
      clear h hc hroom
      go_enter Try.func11, Try.ntmps11
      go_wp2_with fail
      refine kc.mono ?_
      rintro e w1 ⟨rfl, hb⟩
      obtain ⟨c6, v, hr⟩ := kl.out w1 hb
      go_wp2
      go_ret
      exact ⟨rfl, hb⟩
    | true =>
      simp only [Bool.true_eq_false, if_false]
      have kl : Aside (∀ w1, Below W.heap.size W w1 → w1.cell? ⟨J.jb, 6, none⟩ = some (.map s.pv) ∧ ∃ v, (Instr.lookup 57 (.map s.pv) (.int .i64 key) true).run Try.prog w1 = .ok (.tuple #[v, .bool true]) w1) := fun w1 hb => by
        have h' := HJ.out.below hb
        obtain ⟨v, hr, _⟩ := hdr_look h'.vals.src key hwf
        rw [h'.vals.has key, hV] at hr
        exact ⟨h'.c6, v, hr⟩
      have ko : Aside (∀ w1, Below W.heap.size W w1 → Calls Try.prog 28 #[.pointer (some ⟨J.jb, 0, none⟩), .int .i64 key] w1 fun e w' => e = .returned (.map (some w1.heap.size)) ∧ w'.ownsMap Try.prog 3 hdr w1.heap.size (Maps.size s.D) (restOf s.D key) ∧ Below w1.heap.size w1 w') :=
        fun w1 hb => others_f J.jb s.pv s.D key w1 (HJ.out.below hb).c6 (HJ.out.below hb).vals.src hwf hroom
      obtain ⟨kn, rfl⟩ : ∃ kn : Nat, key = (kn : Int) := ⟨key.toNat, by omega⟩
      clear h hc hroom hwf hk0
      go_enter Try.func11, Try.ntmps11
      go_wp2_with fail
      refine kc.mono ?_
      rintro e w1 ⟨rfl, hb⟩
      have hB1 : Aside _ := hb
      obtain ⟨c6, v, hr⟩ := kl.out w1 hb
      clear hb
      go_wp2_with fail
      refine (ko.out w1 hB1.out).mono ?_
      rintro e w2 ⟨rfl, ho, hb2⟩
      have hB2 : Aside (Below W.heap.size W w2) := hB1.out.trans (hb2.mono hB1.out.size)
      have hv2 : Aside _ := Vals.rest (HJ.out.below hB1.out).vals (kn : Int) ho hb2 (HJ.out.below hB1.out).top
      clear ho hb2 c6 hr
      go_wp2_with fail
      have kr := record_f w2 kn 254 none 0 0 [] (Bs.empty _ _ _) (by decide)
      refine kr.mono ?_
      rintro e w3 hret
      obtain ⟨A, N, c, rfl, hNc, hN, hbs, hb3, hbase⟩ := hret.slice2
      have hB3 : Aside (Below W.heap.size W w3) := hB2.out.trans (hb3.mono hB2.out.size)
      have hv3 : Aside _ := hv2.out.below hb3
      have h3 := HJ.out.below hB3.out
      have hN' : N = 6 := by rw [hN]; unfold seals; simp [p32]
      have hfl2 := (HJ.out.below hB2.out).fl.lt
      have kt := jturn_f w3 J F s h3 (some w1.heap.size) _ _ hv3.out A N c _ hbs (fun _ => ⟨fun a ha => by have := hbase a ha; omega, fun a ha => by have := hbase a ha; omega, fun a ha => by have := hbase a ha; omega⟩) hNc (by omega)
      clear kr hret hNc hN hbs hb3 hbase h3 hN' hfl2
      go_wp2_with fail
      refine kt.mono ?_
      intro e w' hp
      obtain ⟨ec, he⟩ := hp.returns
      subst he
      have HP : Aside _ := hp
      clear hp
      go_wp2
      go_ret
      exact ⟨w3, w1.heap.size, _, hB3.out, hv3.out, HP.out⟩
  · simp only [ne_eq, hc, not_false_eq_true, if_true]
    have q0 : (jck F key != 0) = true := bne_iff_ne.2 hc
    clear h
    generalize jck F key = ec at *
    go_enter Try.func11, Try.ntmps11
    go_wp2_with fail
    refine kc.mono ?_
    rintro e w1 ⟨rfl, hb⟩
    go_wp2
    go_ret
    exact ⟨rfl, hb⟩
end Go.Proofs.Ytpdlipkmojhnnaa
