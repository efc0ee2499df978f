/-
  The laws of layer 11: HeapChain.
-/
import Derived.Test.YtceokibalphgpaaHpI
namespace Go.Proofs.Ytceokibalphgpaa
open Go Go.ChangeShapes Go.WideShapes Go.ChangeAt Go.RowKit

def hs1 (n : Nat) : List Int := (List.range n).map fun j => hand j 1
/-- The first k places were dropped. -/
structure Qk (A : Ar) (n k : Nat) : Prop where
  l : A.L.length = n
  q : ∀ (i : Nat) sp, A.L[i]? = some sp → (i < k → sp.t = false) ∧ (k ≤ i → sp.t = true ∧ sp.g = 1)
theorem all_q : ∀ (L : List Spot) (off k : Nat), (∀ (i : Nat) sp, L[i]? = some sp → (off + i < k → sp.t = false) ∧ (k ≤ off + i → sp.t = true ∧ sp.g = 1)) → ((L.zipIdx off).filter (·.1.t)).map (fun p => hand p.2 p.1.g) = ((List.range' off L.length).drop (k - off)).map fun j => hand j 1
  | [], off, k, _ => by simp
  | a :: L, off, k, h => by
    have h0 := h 0 a rfl
    have ih := all_q L (off + 1) k fun i sp hi => by
      have := h (i + 1) sp (by simpa using hi)
      rw [show off + (i + 1) = off + 1 + i by omega] at this
      exact this
    rw [List.zipIdx_cons, List.length_cons, List.range'_succ]
    by_cases hk : off < k
    · have ht := h0.1 (by omega)
      rw [List.filter_cons_of_neg (by simp [ht]), ih, show k - off = (k - (off + 1)) + 1 by omega, List.drop_succ_cons]
    · obtain ⟨ht, hg⟩ := h0.2 (by omega)
      rw [List.filter_cons_of_pos (by simpa using ht), List.map_cons, ih, show k - off = 0 by omega, show k - (off + 1) = 0 by omega, List.drop_zero, List.drop_zero, List.map_cons]
      simp [hg]
theorem Qk.all {A : Ar} {n k : Nat} (h : Qk A n k) : allA A = (hs1 n).drop k := by
  unfold allA
  rw [all_q A.L 0 k fun i sp hi => by rw [Nat.zero_add]; exact h.q i sp hi, h.l, Nat.sub_zero, ← List.range_eq_range']
  unfold hs1
  rw [List.map_drop]
theorem hand_inj {i j : Nat} (h : hand i 1 = hand j 1) : i = j := by unfold hand at h; omega
theorem Qk.drop {A : Ar} {n k i : Nat} {sp : Spot} (h : Qk A n k) (hf : Found A (hand k 1) i sp) : Qk (dropAt A i sp) n (k + 1) := by
  obtain ⟨h1, h2, h3⟩ := hf
  have hki : k ≤ i := Nat.le_of_not_lt fun hlt => by
    have := (h.q i sp h1).1 hlt
    rw [h2] at this; cases this
  have hg := ((h.q i sp h1).2 hki).2
  rw [hg] at h3
  have hik := hand_inj h3
  subst hik
  have hil := (List.getElem?_eq_some_iff.1 h1).1
  unfold dropAt
  rw [if_pos (by omega)]
  refine ⟨by simp [h.l], fun j s2 hj => ?_⟩
  simp only [List.getElem?_set] at hj
  split at hj
  · rename_i e
    subst e
    simp at hj
    subst hj
    exact ⟨fun _ => rfl, fun hle => by omega⟩
  · have := h.q j s2 hj
    exact ⟨fun hlt => this.1 (by omega), fun hle => this.2 (by omega)⟩
theorem Qk.drops {n : Nat} : ∀ (m : Nat) {A A' : Ar} {k : Nat}, Qk A n k → DrR A ((List.range' k m).map fun j => hand j 1) A' → Qk A' n (k + m)
  | 0, A, A', k, h, hd => by cases hd; exact h
  | m + 1, A, A', k, h, hd => by
    rw [List.range'_succ, List.map_cons] at hd
    cases hd with
    | cons hf hr =>
      have := Qk.drops m (h.drop hf) hr
      rw [show k + 1 + m = k + (m + 1) by omega] at this
      exact this
theorem Frs.qk {A : Ar} {most n : Nat} (h : Frs A most n) (h1 : A.first = 1) : Qk A n 0 := ⟨h.l, fun i sp hi => ⟨fun hlt => by omega, fun _ => by rw [← h1]; exact h.t i sp hi⟩⟩
theorem hs1_take {n k : Nat} (hk : k ≤ n) : (hs1 n).take k = (List.range' 0 k).map fun j => hand j 1 := by
  unfold hs1
  rw [← List.map_take, List.take_range, Nat.min_eq_left hk, List.range_eq_range']
theorem hs1_succ (n : Nat) : hs1 (n + 1) = hs1 n ++ [hand n 1] := by unfold hs1; rw [List.range_succ, List.map_append]; rfl
theorem hs1_nd (n : Nat) : (hs1 n).Nodup := by
  unfold hs1
  unfold List.Nodup
  rw [List.pairwise_map]
  exact List.Pairwise.imp (fun hab e => hab (hand_inj e)) (List.nodup_range)
theorem hs1_len (n : Nat) : (hs1 n).length = n := by simp [hs1]
/-- A chain, under way. -/
structure ChI (Rp : (Nat → Prop) → World → Value → Hs → Prop) (w : World) (p v : Value) (i : Nat) (wr : World) : Prop where
  ex : ∃ S s, RowS TU u64v S w.heap.size wr v (hs1 i) ∧ (∀ b, S b → w.heap.size ≤ b) ∧ Rp S wr p s ∧ s.L = chn none (hs1 i) ∧ s.top = 9 ∧ Frs s.A 100 i ∧ s.A.first = 1
  b : Below w.heap.size w wr
/-- What the chain's objects are. -/
theorem chn_at : ∀ (l : List Int) (k : Option Nat) (h : Int), h ∈ l → ∃ o ∈ chn k l, o.h = h ∧ o.outer = 0 ∧ o.inners = [] ∧ (o.count = 1 ∨ o.count = 2) ∧ o.links.length = 1
  | a :: l, k, h, hh => by
    rcases List.mem_cons.1 hh with rfl | hh
    · refine ⟨_, List.mem_cons_self .., rfl, rfl, rfl, ?_, rfl⟩
      simp only
      split
      · exact .inr rfl
      · exact .inl rfl
    · obtain ⟨o, ho, h1⟩ := chn_at l (prv k) h hh
      exact ⟨o, List.mem_cons_of_mem _ ho, h1⟩
theorem chn_last : ∀ (l : List Int) (last : Int), l.getLast? = some last → l.Nodup → ∃ o ∈ chn none l, o.h = last ∧ o.links = [⟨0, 0⟩] ∧ o.outer = 0
  | [a], last, hl, _ => by
    simp at hl
    subst hl
    exact ⟨_, List.mem_cons_self .., rfl, rfl, rfl⟩
  | a :: b :: l, last, hl, hn => by
    rw [List.getLast?_cons_cons] at hl
    obtain ⟨o, ho, h1⟩ := chn_last (b :: l) last hl (List.nodup_cons.1 hn).2
    exact ⟨o, List.mem_cons_of_mem _ ho, h1⟩
end Go.Proofs.Ytceokibalphgpaa
