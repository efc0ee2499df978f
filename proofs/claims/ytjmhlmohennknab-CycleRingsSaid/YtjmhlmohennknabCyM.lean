/-
  Graphs plainly: what is come to by edges, how many edges there are, what lives, what is garbage. It speaks of no program.
-/
import Derived.Test.YtjmhlmohennknabChecked
namespace Go.Proofs.Ytjmhlmohennknab
open Go

/-- What is come to from some nodes by edges, they among it. -/
inductive Rch (e : Nat → List Nat) (S : Nat → Prop) : Nat → Prop
  | from_ {i : Nat} (h : S i) : Rch e S i
  | edge {i j : Nat} (h : Rch e S i) (hj : j ∈ e i) : Rch e S j
theorem Rch.mono {e : Nat → List Nat} {S T : Nat → Prop} (h : ∀ i, S i → T i) {i : Nat} (hr : Rch e S i) : Rch e T i := by
  induction hr with
  | from_ hs => exact .from_ (h _ hs)
  | edge _ hj ih => exact .edge ih hj
/-- A set that holds the beginnings and is closed holds all that is come to. -/
theorem Rch.in_ {e : Nat → List Nat} {S P : Nat → Prop} (h : ∀ i, S i → P i) (hc : ∀ i j, P i → j ∈ e i → P j) {i : Nat} (hr : Rch e S i) : P i := by
  induction hr with
  | from_ hs => exact h _ hs
  | edge _ hj ih => exact hc _ _ ih hj
theorem Rch.lt {n : Nat} {e : Nat → List Nat} {S : Nat → Prop} (hS : ∀ i, S i → i < n) (he : ∀ i, ∀ j ∈ e i, j < n) {i : Nat} (hr : Rch e S i) : i < n := by
  cases hr with
  | from_ hs => exact hS _ hs
  | edge _ hj => exact he _ _ hj
open Classical in
/-- How many edges the nodes of a set, below n, have to a node. -/
noncomputable def into (e : Nat → List Nat) (P : Nat → Prop) : Nat → Nat → Nat
  | 0, _ => 0
  | n + 1, j => into e P n j + if P n then (e n).count j else 0
theorem into_congr {e : Nat → List Nat} {P Q : Nat → Prop} {n : Nat} (h : ∀ i, i < n → (P i ↔ Q i)) (j : Nat) : into e P n j = into e Q n j := by
  induction n with
  | zero => rfl
  | succ n ih =>
    unfold into
    rw [ih (fun i hi => h i (by omega))]
    have := h n (by omega)
    by_cases hp : P n
    · rw [if_pos hp, if_pos (this.1 hp)]
    · rw [if_neg hp, if_neg (fun hq => hp (this.2 hq))]
theorem into_congrE {e f : Nat → List Nat} {P : Nat → Prop} {n : Nat} (h : ∀ i, i < n → P i → e i = f i) (j : Nat) : into e P n j = into f P n j := by
  induction n with
  | zero => rfl
  | succ n ih =>
    unfold into
    rw [ih (fun i hi => h i (by omega))]
    by_cases hp : P n
    · rw [if_pos hp, if_pos hp, h n (by omega) hp]
    · rw [if_neg hp, if_neg hp]
/-- One more node of the set. -/
theorem into_add {e : Nat → List Nat} {P Q : Nat → Prop} {n k : Nat} (hk : k < n) (hp : ¬ P k) (h : ∀ i, i < n → (Q i ↔ (P i ∨ i = k))) (j : Nat) : into e Q n j = into e P n j + (e k).count j := by
  induction n with
  | zero => omega
  | succ n ih =>
    unfold into
    by_cases hkn : k = n
    · subst hkn
      have hb : into e Q k j = into e P k j := into_congr (fun i hi => by
        rw [h i (by omega)]
        exact ⟨fun h => h.elim id (fun e => by omega), Or.inl⟩) j
      rw [hb, if_pos ((h k (by omega)).2 (.inr rfl)), if_neg hp]
      omega
    · rw [ih (by omega) (fun i hi => h i (by omega))]
      have := h n (by omega)
      by_cases hpn : P n
      · rw [if_pos hpn, if_pos (this.2 (.inl hpn))]
        omega
      · rw [if_neg hpn, if_neg (fun hq => (this.1 hq).elim hpn (fun e => hkn e.symm))]
        omega
theorem into_mono {e : Nat → List Nat} {P Q : Nat → Prop} {n : Nat} (h : ∀ i, i < n → P i → Q i) (j : Nat) : into e P n j ≤ into e Q n j := by
  induction n with
  | zero => exact Nat.le_refl _
  | succ n ih =>
    unfold into
    have := ih (fun i hi => h i (by omega))
    by_cases hp : P n
    · rw [if_pos hp, if_pos (h n (by omega) hp)]
      omega
    · rw [if_neg hp]
      omega
theorem into_or {e : Nat → List Nat} {P Q R : Nat → Prop} {n : Nat} (h : ∀ i, i < n → (R i ↔ (P i ∨ Q i))) (hd : ∀ i, i < n → P i → ¬ Q i) (j : Nat) : into e R n j = into e P n j + into e Q n j := by
  induction n with
  | zero => rfl
  | succ n ih =>
    unfold into
    rw [ih (fun i hi => h i (by omega)) (fun i hi => hd i (by omega))]
    have h1 := h n (by omega)
    have h2 := hd n (by omega)
    by_cases hp : P n
    · rw [if_pos hp, if_pos (h1.2 (.inl hp)), if_neg (h2 hp)]; omega
    · by_cases hq : Q n
      · rw [if_neg hp, if_pos hq, if_pos (h1.2 (.inr hq))]; omega
      · rw [if_neg hp, if_neg hq, if_neg (fun hr => (h1.1 hr).elim hp hq)]; omega
/-- All places of all lists below n. -/
def tot (e : Nat → List Nat) : Nat → Nat
  | 0 => 0
  | n + 1 => tot e n + (e n).length
theorem into_le (e : Nat → List Nat) (P : Nat → Prop) (n j : Nat) : into e P n j ≤ tot e n := by
  induction n with
  | zero => exact Nat.le_refl _
  | succ n ih =>
    unfold into tot
    have : (e n).count j ≤ (e n).length := List.count_le_length
    split <;> omega
theorem into_pos {e : Nat → List Nat} {P : Nat → Prop} {n i j : Nat} (hi : i < n) (hp : P i) (hj : j ∈ e i) : 0 < into e P n j := by
  induction n with
  | zero => omega
  | succ n ih =>
    unfold into
    by_cases h : i = n
    · subst h
      rw [if_pos hp]
      have := List.count_pos_iff.2 hj
      omega
    · have := ih (by omega)
      omega
/-- A graph, plainly: how many nodes, their counts, their edges, who is suspected. -/
structure Gr where
  n : Nat
  c : Nat → Int
  e : Nat → List Nat
  s : Nat → Prop
/-- A right one. -/
structure GrOk (g : Gr) : Prop where
  e : ∀ i, ∀ j ∈ g.e i, j < g.n
  s : ∀ i, g.s i → i < g.n
  c : ∀ i, 0 ≤ g.c i ∧ g.c i ≤ 4294967295
namespace Gr
def reach (g : Gr) : Nat → Prop := Rch g.e g.s
def outer (g : Gr) (i : Nat) : Prop := g.reach i ∧ (into g.e g.reach g.n i : Int) < g.c i
def live (g : Gr) : Nat → Prop := Rch g.e g.outer
open Classical in
noncomputable def garb (g : Gr) : List Nat := (List.range g.n).filter fun i => decide (g.reach i ∧ ¬ g.live i)
theorem reach_lt {g : Gr} (h : GrOk g) {i : Nat} (hr : g.reach i) : i < g.n := hr.lt h.s h.e
theorem live_reach {g : Gr} {i : Nat} (hr : g.live i) : g.reach i := hr.in_ (fun _ h => h.1) (fun _ _ h hj => .edge h hj)
theorem mem_garb {g : Gr} {i : Nat} : i ∈ g.garb ↔ i < g.n ∧ g.reach i ∧ ¬ g.live i := by
  unfold garb
  rw [List.mem_filter, List.mem_range]
  simp
theorem garb_len (g : Gr) : g.garb.length ≤ g.n := by
  unfold garb
  refine Nat.le_trans (List.length_filter_le _ _) ?_
  simp
end Gr
end Go.Proofs.Ytjmhlmohennknab
