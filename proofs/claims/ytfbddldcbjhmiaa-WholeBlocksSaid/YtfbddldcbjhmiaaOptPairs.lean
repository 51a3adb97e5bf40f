/-
  What options are written as, told of their numbers and bytes alone.
-/
import Derived.Test.YtfbddldcbjhmiaaOptWrite
import Derived.Test.YtfbddldcbjhmiaaOptRead
namespace Go.Proofs.Ytfbddldcbjhmiaa
open Go.RowKit
set_option maxRecDepth 100000
set_option linter.unusedVariables false
def errP (ps : List (Int × List UInt8)) : Int := if 24 < ps.length then 3 else if ps.any (fun x => badNum x.1) = true then 1 else if ps.any (fun x => decide ((300 : Int) < (x.2.length : Int))) = true then 2 else 0
def sortP (ps : List (Int × List UInt8)) : List (Int × List UInt8) := ps.foldl (fun acc x => addO x.1 x.2 acc) []
def wrP (ps : List (Int × List UInt8)) : List UInt8 × Int := if errP ps = 0 then ((wrF (sortP ps)).1, 0) else ([], errP ps)
theorem insS_map (f : Sv → List UInt8) (s : Sv) (P : List Sv) : (insS s P).map (fun s => (s.k, f s)) = addO s.k (f s) (P.map fun s => (s.k, f s)) := by
  induction P with
  | nil => rfl
  | cons x r ih =>
    rw [insS, List.map_cons, addO]
    split
    · rfl
    · rw [List.map_cons, ih]
theorem sortS_map (w : World) (vs : List Sv) : (sortS vs).map (rd w) = sortP (vs.map (rd w)) := by
  suffices h : ∀ r : List Sv, (sortS r.reverse).map (rd w) = sortP (r.reverse.map (rd w)) by have := h vs.reverse; rwa [List.reverse_reverse] at this
  intro r
  induction r with
  | nil => rfl
  | cons s r ih =>
    rw [List.reverse_cons, sortS_snoc, List.map_append]
    have h1 : sortP ((r.reverse.map (rd w)) ++ [rd w s]) = addO (rd w s).1 (rd w s).2 (sortP (r.reverse.map (rd w))) := by unfold sortP; rw [List.foldl_append]; rfl
    rw [List.map_cons, List.map_nil, h1, ← ih]
    exact insS_map (fun s => rdW w s.A s.n) s _
theorem any_map {α β : Type} (f : α → β) (p : β → Bool) (l : List α) : (l.map f).any p = l.any fun x => p (f x) := by
  rw [List.any_map]; rfl
theorem errOf_eq {w : World} {B n : Nat} {A : Option Addr} {vs : List Sv} {ps : List (Int × List UInt8)} (h : Os w B A n vs ps) : errOf vs = errP ps := by
  unfold errOf errP
  have h1 : ps.any (fun x => badNum x.1) = vs.any (fun s => badNum s.k) := by rw [← h.eq, any_map]; rfl
  have h2 : ps.any (fun x => decide ((300 : Int) < (x.2.length : Int))) = vs.any (fun s => decide ((300 : Int) < s.n)) := by
    rw [← h.eq, any_map]
    rw [Bool.eq_iff_iff, List.any_eq_true, List.any_eq_true]
    constructor
    · rintro ⟨s, hs, hh⟩
      refine ⟨s, hs, ?_⟩
      have e : (rd w s).2.length = s.n := (h.dp s hs).bs.len
      rw [e] at hh; exact hh
    · rintro ⟨s, hs, hh⟩
      refine ⟨s, hs, ?_⟩
      have e : (rd w s).2.length = s.n := (h.dp s hs).bs.len
      rw [e]; exact hh
  rw [h1, h2, h.plen, h.sh.len]
theorem wrO_eq {w : World} {B n : Nat} {A : Option Addr} {vs : List Sv} {ps : List (Int × List UInt8)} (h : Os w B A n vs ps) : wrO w vs = wrP ps := by
  unfold wrO wrP
  rw [errOf_eq h, sortS_map, h.eq]
theorem writep_f (A : Option Addr) (n c : Nat) (vs : List Sv) (ps : List (Int × List UInt8)) (w : World) (B : Nat) (hos : Os w B A n vs ps) (hB : B ≤ w.heap.size) (hn : (n : Int) ≤ 9223372036854775807) :
    Calls Try.prog 40 #[.slice A n c] w (WrRet (wrP ps) w) := by
  have h := write_f A n c vs ps w B hos hB hn
  rw [wrO_eq hos] at h
  exact h
/-- Options just laid. -/
theorem os_two (w : World) (e : TypeId) (fr : Nat × Nat) (s t : Sv) (l m : List UInt8) (B : Nat) (hs : Bs w B s.A s.n l) (ht : Bs w B t.A t.n m) (h1 : s.n ≤ s.c ∧ s.c ≤ maxLen) (h2 : t.n ≤ t.c ∧ t.c ≤ maxLen) (hB : B ≤ w.heap.size) :
    Os (w.alloc (.cells #[.int .i64 s.k, .slice s.A s.n s.c, .int .i64 t.k, .slice t.A t.n t.c] e fr)) (w.heap.size + 1) (some ⟨w.heap.size, 0, none⟩) 2 [s, t] [(s.k, l), (t.k, m)] := by
  have a := alloc_below w (.cells #[.int .i64 s.k, .slice s.A s.n s.c, .int .i64 t.k, .slice t.A t.n t.c] e fr)
  have q1 := SvAt.mk_ (s := s) ((hs.below' a hB).more (show B ≤ w.heap.size + 1 by omega)) h1.1 h1.2
  have q2 := SvAt.mk_ (s := t) ((ht.below' a hB).more (show B ≤ w.heap.size + 1 by omega)) h2.1 h2.2
  refine ⟨⟨rfl, fun _ => ⟨w.heap.size, 0, rfl, by omega, fun i x hx => ?_⟩⟩, fun x hx => ?_, by rw [List.map_cons, List.map_cons, List.map_nil, q1.2, q2.2]⟩
  · match i, hx with
    | 0, hx =>
      obtain rfl := Option.some.inj hx
      constructor
      · rw [cell_of_row _ _ _ _ _ _ (heap_alloc_new w _)]; rfl
      · rw [cell_of_row _ _ _ _ _ _ (heap_alloc_new w _)]; rfl
    | 1, hx =>
      obtain rfl := Option.some.inj hx
      constructor
      · rw [cell_of_row _ _ _ _ _ _ (heap_alloc_new w _)]; rfl
      · rw [cell_of_row _ _ _ _ _ _ (heap_alloc_new w _)]; rfl
    | i + 2, hx => simp at hx
  · rcases List.mem_cons.1 hx with rfl | hx
    · exact q1.1
    · obtain rfl := List.mem_singleton.1 hx
      exact q2.1
theorem os_one (w : World) (e : TypeId) (fr : Nat × Nat) (s : Sv) (l : List UInt8) (B : Nat) (hs : Bs w B s.A s.n l) (h1 : s.n ≤ s.c ∧ s.c ≤ maxLen) (hB : B ≤ w.heap.size) :
    Os (w.alloc (.cells #[.int .i64 s.k, .slice s.A s.n s.c] e fr)) (w.heap.size + 1) (some ⟨w.heap.size, 0, none⟩) 1 [s] [(s.k, l)] := by
  have a := alloc_below w (.cells #[.int .i64 s.k, .slice s.A s.n s.c] e fr)
  have q1 := SvAt.mk_ (s := s) ((hs.below' a hB).more (show B ≤ w.heap.size + 1 by omega)) h1.1 h1.2
  exact ⟨Sh.lit0 w e s fr, Dp.one q1.1, by rw [List.map_cons, List.map_nil, q1.2]⟩
end Go.Proofs.Ytfbddldcbjhmiaa
