/-
  Messages: few; used codes; what asks, what answers, by the document; an answer without options.
-/
import Derived.Test.YtihicplembaoeaaMsgRead
import Derived.Test.YtihicplembaoeaaOptRAdd
namespace Go.Proofs.Ytihicplembaoeaa
open Go.RowKit
set_option maxRecDepth 100000
set_option linter.unusedVariables false
theorem used_f (c : Int) (h0 : 0 ≤ c) (h1 : c ≤ 255) (w : World) : Calls Try.prog 68 #[.int .i64 c] w fun e w' => e = .returned (.bool (codeB c)) ∧ w' = w := by
  have hq : c.tdiv 32 = c / 32 := Int.tdiv_eq_ediv_of_nonneg h0
  obtain ⟨q, hqq⟩ : ∃ q, c / 32 = q := ⟨_, rfl⟩
  rw [hqq] at hq
  have hwq : wrap64 q = q := IntWalk.wrap64_in _ (by omega)
  by_cases hc : q = 1 ∨ q = 6 ∨ q = 7
  · have hr : codeB c = false := by
      cases e : codeB c with
      | false => rfl
      | true => exact absurd ((codeB_iff c).1 e) (by omega)
    have HR := Lib.hid hr
    clear hr h0 h1 hqq
    rcases hc with rfl | rfl | rfl
    all_goals
      go_enter Try.func68, Try.ntmps68
      go_wp2
      go_ret
      exact ⟨retB HR.out.symm, rfl⟩
  · have hr : codeB c = true := (codeB_iff c).2 (by omega)
    have h1' : (q != 1) = true := bne_iff_ne.2 (by omega)
    have h6 : (q != 6) = true := bne_iff_ne.2 (by omega)
    have h7 : (q != 7) = true := bne_iff_ne.2 (by omega)
    have HR := Lib.hid hr
    clear hr h0 h1 hqq hc
    go_enter Try.func68, Try.ntmps68
    go_wp2
    go_ret
    exact ⟨retB HR.out.symm, rfl⟩
def fewM (m : Mq) : Bool := decide (m.tok.length ≤ 100) && decide (m.body.length ≤ 2000) && fewB m.ps
section
variable (kd cd id : Int) (tA : Option Addr) (tn tc : Nat) (oA : Option Addr) (on oc : Nat) (bA : Option Addr) (bn bc : Nat) (vs : List Sv) (tok : List UInt8) (ps : List (Int × List UInt8)) (body : List UInt8) (w : World)
theorem few9_f (hm : Ms w w.heap.size tA tn oA on vs bA bn tok ps body) (hn : (on : Int) ≤ 9223372036854775807) :
    Calls Try.prog 30 #[.agg #[.int .i64 kd, .int .i64 cd, .int .i64 id, .slice tA tn tc, .slice oA on oc, .slice bA bn bc]] w fun e w' => e = .returned (.bool (fewM ⟨kd, cd, id, tok, ps, body⟩)) ∧ Below w.heap.size w w' := by
  have htl := hm.t.len
  have hbl := hm.b.len
  have hb := alloc_below w (.cells #[.int .i64 kd, .int .i64 cd, .int .i64 id, .slice tA tn tc, .slice oA on oc, .slice bA bn bc] 51)
  have hf := few_f oA on oc vs ps _ _ (hm.o.below hb) hn
  have hr : fewM ⟨kd, cd, id, tok, ps, body⟩ = (decide ((tn : Int) ≤ 100) && decide ((bn : Int) ≤ 2000) && fewB ps) := by
    unfold fewM
    rw [Bool.eq_iff_iff]
    simp only [Bool.and_eq_true, decide_eq_true_eq]
    refine and_congr (and_congr ?_ ?_) Iff.rfl <;> omega
  rw [hr]
  obtain ⟨q, hq⟩ : ∃ q, fewB ps = q := ⟨_, rfl⟩
  rw [hq] at hf ⊢
  have HF := Lib.hid (And.intro hf hb)
  clear hr hf hm htl hbl hq hb
  by_cases h1 : (tn : Int) ≤ 100
  · by_cases h2 : (bn : Int) ≤ 2000
    · go_enter Try.func30, Try.ntmps30
      go_wp2_with (go_at_call 15; refine HF.out.1.mono ?_; rintro e w' ⟨rfl, hw⟩; obtain rfl := hw.symm)
      go_ret
      exact ⟨retB (by first | (simp; done) | (simp; omega) | (simp; intros; omega)), HF.out.2⟩
    · go_enter Try.func30, Try.ntmps30
      go_wp2
      go_ret
      exact ⟨retB (by first | (simp; done) | (simp; omega) | (simp; intros; omega)), HF.out.2⟩
  · go_enter Try.func30, Try.ntmps30
    go_wp2
    go_ret
    exact ⟨retB (by first | (simp; done) | (simp; omega) | (simp; intros; omega)), HF.out.2⟩
theorem rrequest_f : Calls Try.prog 42 #[.agg #[.int .i64 kd, .int .i64 cd, .int .i64 id, .slice tA tn tc, .slice oA on oc, .slice bA bn bc]] w fun e w' => e = .returned (.bool (askB cd)) ∧ Below w.heap.size w w' := by
  have hr : askB cd = (decide (1 ≤ cd) && decide (cd ≤ 31)) := by unfold askB; rw [Bool.eq_iff_iff]; simp
  rw [hr]
  by_cases h1 : 1 ≤ cd
  · go_enter Try.func42, Try.ntmps42
    go_wp2
    go_ret
    exact ⟨retB (by first | (simp; done) | (simp; omega) | (simp; intros; omega)), alloc_below w _⟩
  · go_enter Try.func42, Try.ntmps42
    go_wp2
    go_ret
    exact ⟨retB (by first | (simp; done) | (simp; omega) | (simp; intros; omega)), alloc_below w _⟩
theorem ranswer_f : Calls Try.prog 44 #[.agg #[.int .i64 kd, .int .i64 cd, .int .i64 id, .slice tA tn tc, .slice oA on oc, .slice bA bn bc]] w fun e w' => e = .returned (.bool (ansB cd)) ∧ Below w.heap.size w w' := by
  have hr : ansB cd = ((decide (64 ≤ cd) && decide (cd ≤ 95)) || (decide (128 ≤ cd) && decide (cd ≤ 191))) := by unfold ansB; rw [Bool.eq_iff_iff]; simp
  rw [hr]
  clear hr
  have hcase : (64 ≤ cd ∧ cd ≤ 95) ∨ (64 ≤ cd ∧ ¬ cd ≤ 95 ∧ 128 ≤ cd) ∨ (64 ≤ cd ∧ ¬ cd ≤ 95 ∧ ¬ 128 ≤ cd) ∨ (¬ 64 ≤ cd ∧ ¬ 128 ≤ cd) := by omega
  rcases hcase with ⟨h1, h2⟩ | ⟨h1, h2, h3⟩ | ⟨h1, h2, h3⟩ | ⟨h1, h3⟩
  · go_enter Try.func44, Try.ntmps44
    go_wp2
    go_ret
    exact ⟨retB (by first | (simp; done) | (simp; omega) | (simp; intros; omega)), alloc_below w _⟩
  · go_enter Try.func44, Try.ntmps44
    go_wp2
    go_ret
    exact ⟨retB (by first | (simp; done) | (simp; omega) | (simp; intros; omega)), alloc_below w _⟩
  · go_enter Try.func44, Try.ntmps44
    go_wp2
    go_ret
    exact ⟨retB (by first | (simp; done) | (simp; omega) | (simp; intros; omega)), alloc_below w _⟩
  · go_enter Try.func44, Try.ntmps44
    go_wp2
    go_ret
    exact ⟨retB (by first | (simp; done) | (simp; omega) | (simp; intros; omega)), alloc_below w _⟩
end
/-- A message returned. -/
def RetM (m : Mq) (w : World) (e : Ending) (w' : World) : Prop :=
  ∃ (tA : Option Addr) (tn tc : Nat) (oA : Option Addr) (on oc : Nat) (bA : Option Addr) (bn bc : Nat) (vs : List Sv),
    e = .returned (.agg #[.int .i64 m.kd, .int .i64 m.cd, .int .i64 m.id, .slice tA tn tc, .slice oA on oc, .slice bA bn bc])
    ∧ Hid (tn ≤ tc ∧ tc ≤ maxLen ∧ on ≤ oc ∧ oc ≤ maxLen ∧ bn ≤ bc ∧ bc ≤ maxLen) ∧ Ms w' w'.heap.size tA tn oA on vs bA bn m.tok m.ps m.body ∧ Below w.heap.size w w'
end Go.Proofs.Ytihicplembaoeaa
