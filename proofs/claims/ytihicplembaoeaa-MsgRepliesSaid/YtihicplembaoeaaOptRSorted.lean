/-
  The document's sorting of options.
-/
import Derived.Test.YtihicplembaoeaaOptRAdd
namespace Go.Proofs.Ytihicplembaoeaa
open Go.RowKit
set_option maxRecDepth 100000
set_option linter.unusedVariables false
theorem Os.keep_ {w w' : World} {B n : Nat} {A : Option Addr} {vs : List Sv} {ps : List (Int × List UInt8)} (h : Os w B A n vs ps) (hk : ∀ p : Addr, p.block < B → w'.cell? p = w.cell? p) : Os w' B A n vs ps := ⟨h.sh.keep hk, h.dp.keep hk, (h.dp.rd_keep hk).trans h.eq⟩
theorem sortP_snoc (ps : List (Int × List UInt8)) (x : Int × List UInt8) : sortP (ps ++ [x]) = addO x.1 x.2 (sortP ps) := by unfold sortP; rw [List.foldl_append]; rfl
theorem sortP_len (ps : List (Int × List UInt8)) : (sortP ps).length = ps.length := by
  suffices h : ∀ r : List (Int × List UInt8), (sortP r.reverse).length = r.length by have := h ps.reverse; rwa [List.reverse_reverse, List.length_reverse] at this
  intro r
  induction r with
  | nil => rfl
  | cons s r ih => rw [List.reverse_cons, sortP_snoc, addO_len, ih]; rfl
theorem sortP_mem (ps : List (Int × List UInt8)) : ∀ x, x ∈ sortP ps → x ∈ ps := by
  suffices h : ∀ (r : List (Int × List UInt8)) (x : Int × List UInt8), x ∈ sortP r.reverse → x ∈ r by intro x hx; have := h ps.reverse x (by rwa [List.reverse_reverse]); exact List.mem_reverse.1 this
  intro r
  induction r with
  | nil => intro x hx; exact hx
  | cons s r ih =>
    intro x hx
    rw [List.reverse_cons, sortP_snoc] at hx
    rcases addO_mem _ _ _ x hx with h | h
    · rw [h]; exact List.mem_cons_self
    · exact List.mem_cons_of_mem _ (ih x h)
def Upp (ps : List (Int × List UInt8)) : Prop := ps.Pairwise fun a b => a.1 ≤ b.1
theorem addO_up {num : Int} {l : List UInt8} {P : List (Int × List UInt8)} (h : Upp P) : Upp (addO num l P) := by
  induction P with
  | nil => exact List.pairwise_singleton _ _
  | cons y r ih =>
    rw [addO]
    unfold Upp at h
    rw [List.pairwise_cons] at h
    split
    · rename_i hlt
      refine List.pairwise_cons.2 ⟨fun x hx => ?_, List.pairwise_cons.2 h⟩
      rcases List.mem_cons.1 hx with rfl | hx
      · show num ≤ x.1; omega
      · have := h.1 x hx; show num ≤ x.1; omega
    · rename_i hlt
      refine List.pairwise_cons.2 ⟨fun x hx => ?_, ih h.2⟩
      rcases addO_mem _ _ _ x hx with rfl | hx
      · show y.1 ≤ num; omega
      · exact h.1 x hx
theorem sortP_up (ps : List (Int × List UInt8)) : Upp (sortP ps) := by
  suffices h : ∀ r : List (Int × List UInt8), Upp (sortP r.reverse) by have := h ps.reverse; rwa [List.reverse_reverse] at this
  intro r
  induction r with
  | nil => exact List.Pairwise.nil
  | cons s r ih => rw [List.reverse_cons, sortP_snoc]; exact addO_up ih
theorem sortP_id {P : List (Int × List UInt8)} (h : Upp P) : sortP P = P := by
  suffices hh : ∀ r : List (Int × List UInt8), Upp r.reverse → sortP r.reverse = r.reverse by have := hh P.reverse (by rwa [List.reverse_reverse]); rwa [List.reverse_reverse] at this
  intro r
  induction r with
  | nil => intro _; rfl
  | cons s r ih =>
    intro hu
    rw [List.reverse_cons] at hu ⊢
    unfold Upp at hu
    rw [List.pairwise_append] at hu
    rw [sortP_snoc, ih hu.1]
    exact addO_none fun x hx => by have := hu.2.2 x hx s (by simp); omega
set_option maxHeartbeats 4000000 in
theorem rsorted_f (A : Option Addr) (n c : Nat) (vs : List Sv) (ps : List (Int × List UInt8)) (w : World) (hos : Os w w.heap.size A n vs ps) (hn : n ≤ 1000000) (hmx : ∀ x ∈ ps, x.2.length ≤ 65536) :
    Calls Try.prog 23 #[.slice A n c] w (RetOs (sortP ps) w) := by
  have hnI : (n : Int) ≤ 1000000 := by omega
  have HO := Lib.hid (And.intro hos (And.intro hmx hos.plen))
  have h0 : Os (w.alloc (.cells #[] 69)) (w.alloc (.cells #[] 69)).heap.size (some ⟨w.heap.size, 0, none⟩) 0 [] [] := Os.nil_ _ _ _
  have H0 := Lib.hid h0
  clear hos hmx h0
  go_enter Try.func23, Try.ntmps23
  go_wp2
  go_loopw [3, 4] (fun v i wr => ∃ (k : Nat) (A' : Option Addr) (c' : Nat) (us : List Sv), k ≤ n ∧ i = .int .i64 k ∧ v = .slice A' k c' ∧ Hid (Os wr wr.heap.size A' k us (sortP (ps.take k)) ∧ k ≤ c' ∧ c' ≤ maxLen ∧ Below w.heap.size w wr)) (fun _ i _ => n - (intOf i).toNat)
  case atStart => exact ⟨0, some ⟨w.heap.size, 0, none⟩, 0, [], by omega, rfl, rfl, Lib.hid ⟨H0.out, Nat.le_refl _, Nat.zero_le _, alloc_below w _⟩⟩
  case round =>
    obtain ⟨k, A', c', us, hk, rfl, rfl, hst⟩ := hrel
    by_cases hlt : k < n
    · obtain ⟨hosw, hmx, hpl⟩ := HO.out
      obtain ⟨hosr, hkc, hcm, hbr⟩ := hst.out
      obtain ⟨b, off, rfl, hb, hc⟩ := hosw.sh.place (by omega)
      obtain ⟨s, hs⟩ := sv_get hosw.sh hlt
      obtain ⟨l, hl, hbs⟩ := hosw.get hs
      have hrg := (hosw.below hbr).sh.range hs
      have c0 : wr.cell? ⟨b, off + k * 2, none⟩ = some (.int .i64 s.k) := hrg 0 _ rfl
      have c1 : wr.cell? ⟨b, off + k * 2 + 1, none⟩ = some (.slice s.A s.n s.c) := hrg 1 _ rfl
      have hlx := hmx _ (List.mem_of_getElem? hl)
      have hsl := hbs.len
      simp only at hlx
      have hadd := radd_f s.k s.A s.n s.c l A' k c' us (sortP (ps.take k)) wr.drew (hosr.keep_ fun _ _ => rfl) (by omega) (fun x hx => hmx x (List.mem_of_mem_take (sortP_mem _ x hx))) ((hbs.below hbr).drew.more (by show w.heap.size ≤ wr.heap.size; exact hbr.size)) (by omega)
      have hsn : addO s.k l (sortP (ps.take k)) = sortP (ps.take (k + 1)) := by rw [List.take_add_one, hl]; exact (sortP_snoc (ps.take k) (s.k, l)).symm
      rw [hsn] at hadd
      have hlen : (sortP (ps.take (k + 1))).length = k + 1 := by rw [sortP_len, List.length_take]; omega
      have hltI : (k : Int) < n := by omega
      have HX := Lib.hid (And.intro hadd (And.intro hbr hlen))
      obtain ⟨sk, sA, sn, sc⟩ := s
      dsimp only at c0 c1 HX
      clear hst hosw hmx hpl hosr hkc hcm hbr hc hs hl hbs hrg hlx hsl hadd hsn hlen
      go_wp2_with fail
      go_still_tail 11, (by kernel_rfl)
      refine gen_world (F := fun W => wpList Try.prog _ _ _ _ W) (fun W => W = wr.drew) rfl ?_
      rintro W rfl
      go_wp2_with fail
      refine HX.out.1.mono ?_
      intro e w5 h5
      obtain ⟨A5, n5, c5, us5, rfl, hc5, hn5, hos5, b5⟩ := h5.ret
      obtain rfl : n5 = k + 1 := hn5.out.trans HX.out.2.2
      have b5' : Below wr.heap.size wr w5 := ⟨b5.os, b5.tape, b5.output, b5.size, b5.block⟩
      have H5 := Lib.hid (And.intro hos5 (And.intro hc5 (b5'.mono HX.out.2.1.size)))
      clear h5 hc5 hn5 hos5 b5 b5'
      go_wp2
      go_roundw
      case rel => exact ⟨k + 1, A5, c5, us5, by omega, by go_num, rfl, Lib.hid ⟨H5.out.1, H5.out.2.1.1, H5.out.2.1.2, HX.out.2.1.trans H5.out.2.2⟩⟩
      case measure => simp [intOf]; omega
    · obtain rfl : k = n := by omega
      have hfull : ps.take k = ps := List.take_of_length_le (by have := HO.out.2.2; omega)
      rw [hfull] at hst
      go_wp2
      go_ret
      obtain ⟨hosr, hkc, hcm, hbr⟩ := hst.out
      exact ⟨A', k, c', us, rfl, ⟨hkc, hcm⟩, Lib.hid (by rw [sortP_len]; exact HO.out.2.2.symm), hosr, hbr⟩
end Go.Proofs.Ytihicplembaoeaa
