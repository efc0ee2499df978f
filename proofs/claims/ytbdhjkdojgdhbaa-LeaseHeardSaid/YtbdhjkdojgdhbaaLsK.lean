/-
  LeaseHeard: what its walk holds from act to act.
-/
import Derived.Test.YtbdhjkdojgdhbaaLsH
namespace Go.Proofs.Ytbdhjkdojgdhbaa
open Go Go.ChangeShapes Go.WideShapes Go.ChangeAt Go.RowKit

section
variable {Rp : World → (Nat → Prop) → Value → Lz → Prop}
/-- Between two stretches: heard of now. -/
def HeN (Rp : World → (Nat → Prop) → Value → Lz → Prop) (w : World) (v : Value) (P : Int) (M : Nat) (W : World) : Prop := ∃ z N, N ≤ M ∧ HeI Rp w v P z z.now N W
/-- Within a stretch: q ticks since. -/
def HeQ (Rp : World → (Nat → Prop) → Value → Lz → Prop) (w : World) (v : Value) (P : Int) (M : Nat) (q : Int) (W : World) : Prop := ∃ z N t, N ≤ M ∧ z.now = t + q ∧ HeI Rp w v P z t N W
variable {w W : World} {v : Value} {P q : Int} {M : Nat}
theorem HeN.start (h : HeN Rp w v P M W) : HeQ Rp w v P M 0 W := by
  obtain ⟨z, N, h1, h2⟩ := h
  exact ⟨z, N, z.now, h1, by omega, h2⟩
theorem HeN.join (HC : LsC Rp) (h : HeN Rp w v P M W) (hM : M ≤ 99999) {k : Int} (hk : Hn k) (h7 : k ≠ 7) :
    Calls Try.prog 17 #[v, .int .u64 k] W fun e w' => (∃ b, e = .returned (.bool b)) ∧ HeN Rp w v P (M + 1) w' := by
  obtain ⟨z, N, h1, h2⟩ := h
  refine (h2.join HC (by omega) hk h7).mono ?_
  rintro e w' ⟨k1, k2⟩
  exact ⟨k1, z.join k, N + 1, by omega, k2⟩
theorem HeQ.tick (HC : LsC Rp) (h : HeQ Rp w v P M q W) (hM : M ≤ 99999) (hq : q + 1 < P) :
    Calls Try.prog 18 #[v] W fun e w' => (∃ u, e = .returned u) ∧ HeQ Rp w v P (M + 1) (q + 1) w' := by
  obtain ⟨z, N, t, h1, h2, h3⟩ := h
  refine (h3.tick HC (by omega) (by omega)).mono ?_
  rintro e w' ⟨k1, k2⟩
  exact ⟨k1, z.tick, N + 1, t, by omega, by show z.now + 1 = t + (q + 1); omega, k2⟩
theorem HeQ.ping (HC : LsC Rp) (h : HeQ Rp w v P M q W) (hM : M ≤ 99999) :
    Calls Try.prog 19 #[v, .int .u64 7] W fun e w' => e = .returned (.int .i64 0) ∧ HeN Rp w v P M w' := by
  obtain ⟨z, N, t, h1, h2, h3⟩ := h
  refine (h3.ping HC (by omega)).mono ?_
  rintro e w' ⟨k1, k2⟩
  exact ⟨k1, z.ping 7, N, h1, k2⟩
theorem HeQ.left (HC : LsC Rp) (h : HeQ Rp w v P M q W) (hM : M ≤ 99999) :
    Calls Try.prog 12 #[v, .int .u64 7] W fun e w' => e = .returned (.tuple #[iv (P - q), .int .i64 0]) ∧ HeQ Rp w v P M q w' := by
  obtain ⟨z, N, t, h1, h2, h3⟩ := h
  refine (h3.left HC (by omega)).mono ?_
  rintro e w' ⟨k1, k2⟩
  have e2 : P - z.now + t = P - q := by omega
  rw [e2] at k1
  exact ⟨k1, z, N, t, h1, h2, k2⟩
theorem HeN.up {M2 : Nat} (h : HeN Rp w v P M W) (hm : M ≤ M2) : HeN Rp w v P M2 W := by
  obtain ⟨z, N, h1, h2⟩ := h
  exact ⟨z, N, by omega, h2⟩
theorem HeN.bel (h : HeN Rp w v P M W) : Below w.heap.size w W := by
  obtain ⟨z, N, h1, h2⟩ := h
  exact h2.below
theorem HeQ.up {M2 : Nat} (h : HeQ Rp w v P M q W) (hm : M ≤ M2) : HeQ Rp w v P M2 q W := by
  obtain ⟨z, N, t, h1, h2, h3⟩ := h
  exact ⟨z, N, t, by omega, h2, h3⟩
theorem HeQ.bel (h : HeQ Rp w v P M q W) : Below w.heap.size w W := by
  obtain ⟨z, N, t, h1, h2, h3⟩ := h
  exact h3.below
/-- When the time has gone. -/
def HeG (Rp : World → (Nat → Prop) → Value → Lz → Prop) (w : World) (v : Value) (W : World) : Prop := ∃ S z N, Rp W S v z ∧ (∀ k, S k → w.heap.size ≤ k) ∧ Below w.heap.size w W ∧ ZOk N z ∧ N ≤ 100000 ∧ hasK 7 z.l = false
theorem HeQ.over (HC : LsC Rp) (h : HeQ Rp w v P M q W) (hM : M ≤ 99999) (hq : P ≤ q + 1) :
    Calls Try.prog 18 #[v] W fun e w' => (∃ u xs, e = .returned u ∧ Told TU u64v w' u xs ∧ (7 : Int) ∈ xs) ∧ HeG Rp w v w' := by
  obtain ⟨z, N, t, h1, h2, h3⟩ := h
  obtain ⟨S, hR, hS⟩ := h3.ex
  have hd : z.time ≤ z.now + 1 - t := by rw [h3.time]; omega
  refine (HC.tick hR h3.ok (by omega)).mono ?_
  rintro e w' ⟨⟨u, k1, k2, _⟩, k3, k4⟩
  refine ⟨⟨u, _, k1, k2, tick_over h3.mem hd⟩, _, _, N + 1, k3, fun k hk => ?_, h3.below.trans (k4.below (B := w.heap.size) h3.below.size hS), h3.ok.tick, by omega, tick_gone h3.ok.rise h3.mem hd⟩
  rcases hk with e | e
  · exact hS k e
  · exact Nat.le_trans h3.below.size e.1
theorem HeG.ping (HC : LsC Rp) (h : HeG Rp w v W) : Calls Try.prog 19 #[v, .int .u64 7] W fun e w' => e = .returned (.int .i64 12) ∧ HeG Rp w v w' := by
  obtain ⟨S, z, N, hR, hS, hb, hok, hN, hh⟩ := h
  refine (HC.ping hR hok hN 7 (by unfold Hn; decide)).mono ?_
  rintro e w' ⟨k1, k3, k4⟩
  rw [hh] at k1
  have hz : z.ping 7 = z := by
    show Lz.mk z.time z.now (if hasK 7 z.l then setK 7 z.now z.l else z.l) = z
    rw [hh]; rfl
  rw [hz] at k3
  refine ⟨k1, _, z, N, k3, fun k hk => ?_, hb.trans (k4.below (B := w.heap.size) hb.size hS), hok, hN, hh⟩
  rcases hk with e | e
  · exact hS k e
  · exact Nat.le_trans hb.size e.1
theorem HeG.leave (HC : LsC Rp) (h : HeG Rp w v W) : Calls Try.prog 20 #[v, .int .u64 7] W fun e w' => e = .returned (.bool false) ∧ Below w.heap.size w w' := by
  obtain ⟨S, z, N, hR, hS, hb, hok, hN, hh⟩ := h
  refine (HC.leave hR hok hN 7 (by unfold Hn; decide)).mono ?_
  rintro e w' ⟨k1, k3, k4⟩
  rw [hh] at k1
  exact ⟨k1, hb.trans (k4.below (B := w.heap.size) hb.size hS)⟩
end
end Go.Proofs.Ytbdhjkdojgdhbaa
