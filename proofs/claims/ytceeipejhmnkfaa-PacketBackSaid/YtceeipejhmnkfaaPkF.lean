/-
  The form of a packet, plainly; a row of one's own that a number is laid behind.
-/
import Derived.Test.YtceeipejhmnkfaaPkA
import Derived.Test.YtceeipejhmnkfaaObF
namespace Go.Proofs.Ytceeipejhmnkfaa
open Go Go.ChangeShapes Go.WideShapes Go.ChangeAt Go.RowKit

def un (n : Int) : Int := IntKind.u64.wrap n
theorem un_u64 (n : Int) : U64 (un n) := by
  have h0 := Int.emod_nonneg n (show (18446744073709551616 : Int) ≠ 0 by decide)
  have h1 := Int.emod_lt_of_pos n (show (0 : Int) < 18446744073709551616 by decide)
  have e : un n = n % 18446744073709551616 := by unfold un; rfl
  rw [e]
  exact ⟨h0, by omega⟩
def hdP (p : Pk) : List Int := lay [p.ki, p.fr, p.to] p.sq 8
def refsP (p : Pk) : List Int := match p.rs with | [x] => frmO x | _ => []
def formP (p : Pk) : List Int :=
  if p.ki = 1 then lay (lay (lay (hdP p) p.ca 8 ++ p.ip ++ [p.me]) (un p.n) 8) p.rs.length 8 ++ refsP p
  else if p.ki = 2 then lay (lay (hdP p) p.ca 8 ++ [p.co]) (un p.n) 8
  else if p.ki = 3 ∨ p.ki = 4 then lay (hdP p ++ p.ip) (un p.n) 8
  else hdP p
theorem hdP_len (p : Pk) : (hdP p).length = 16 := by rw [hdP, lay_len]; rfl
theorem rightP_hd {p : Pk} (h : rightP p = true) : (0 ≤ p.fr ∧ p.fr ≤ 3) ∧ (0 ≤ p.to ∧ p.to ≤ 3) ∧ (1 ≤ p.ki ∧ p.ki ≤ 5) := by
  unfold rightP at h
  split at h
  · cases h
  · rename_i h0
    refine ⟨by omega, by omega, ?_⟩
    split at h
    · omega
    · split at h
      · omega
      · split at h
        · omega
        · split at h
          · omega
          · cases h
theorem rightP_1 {p : Pk} (h : rightP p = true) (hk : p.ki = 1) : p.rs.length ≤ 1 ∧ (0 ≤ p.me ∧ p.me ≤ 7) ∧ p.co = 0 ∧ p.rs.all rightO = true := by
  unfold rightP at h
  split at h
  · cases h
  · repeat (first | rw [if_pos hk] at h | rw [if_neg (by omega)] at h)
    simp only [Bool.and_eq_true, decide_eq_true_eq, beq_iff_eq] at h
    exact ⟨h.1, ⟨h.2.2.1, h.2.2.2.1⟩, h.2.2.2.2, h.2.1⟩
theorem rightP_2 {p : Pk} (h : rightP p = true) (hk : p.ki = 2) : p.ip = g0 ∧ p.me = 0 ∧ p.rs = [] ∧ 0 ≤ p.co ∧ p.co ≤ 20 := by
  unfold rightP at h
  split at h
  · cases h
  · repeat (first | rw [if_pos hk] at h | rw [if_neg (by omega)] at h)
    simp only [Bool.and_eq_true, decide_eq_true_eq, beq_iff_eq] at h
    exact ⟨h.1, h.2.1, List.eq_nil_of_length_eq_zero (by omega), h.2.2.2.1, h.2.2.2.2⟩
theorem rightP_34 {p : Pk} (h : rightP p = true) (hk : p.ki = 3 ∨ p.ki = 4) : p.ca = 0 ∧ p.me = 0 ∧ p.co = 0 ∧ p.rs = [] ∧ 1 ≤ p.n ∧ p.n ≤ 4294967295 := by
  unfold rightP at h
  split at h
  · cases h
  · repeat (first | rw [if_pos hk] at h | rw [if_neg (by omega)] at h)
    simp only [Bool.and_eq_true, decide_eq_true_eq, beq_iff_eq] at h
    exact ⟨h.1, h.2.1, h.2.2.1, List.eq_nil_of_length_eq_zero (by omega), h.2.2.2.2.1, h.2.2.2.2.2⟩
theorem rightP_5 {p : Pk} (h : rightP p = true) (hk : p.ki = 5) : p.ca = 0 ∧ p.ip = g0 ∧ p.me = 0 ∧ p.co = 0 ∧ p.n = 0 ∧ p.rs = [] := by
  unfold rightP at h
  split at h
  · cases h
  · repeat (first | rw [if_pos hk] at h | rw [if_neg (by omega)] at h)
    simp only [Bool.and_eq_true, beq_iff_eq] at h
    exact ⟨h.1, h.2.1, h.2.2.1, h.2.2.2.1, h.2.2.2.2.1, List.eq_nil_of_length_eq_zero (by omega)⟩
set_option maxRecDepth 100000 in
/-- A number laid behind a row of one's own, with its gap. -/
theorem ES.numG {w1 W : World} {a : Option Addr} {n c : Nat} {xs : List Int} (h : ES w1 W (.slice a n c) n xs) (z : Int) (k : Nat) (hk : Siz k) (h0 : 0 ≤ z) (h1 : z ≤ 18446744073709551615) (hl : n ≤ 1000000000000) :
    Calls Try.prog 30 #[.slice a n c, .int .u64 z, .int .i64 k] W fun e W' => ∃ a' c', e = .returned (.slice a' (lay xs z k).length c') ∧ ES w1 W' (.slice a' (lay xs z k).length c') (lay xs z k).length (lay xs z k) := by
  have h00 : a = none → c = 0 ∧ n = 0 := fun ha => by
    obtain ⟨a', k', hv, hz⟩ := own_form0 h.1
    cases hv; exact hz ha
  refine (RNum_any W a c n xs z k (own_bs h.1) h.2.2 h00 hk h0 h1 (by omega)).mono fun e W' hp => ?_
  obtain ⟨v, rfl, hr, hb⟩ := hp
  obtain ⟨a', c', rfl⟩ := own_form hr
  exact ⟨a', c', rfl, owns_low hr h.2.1.size, h.2.1.trans (hb.mono h.2.1.size), rfl⟩
end Go.Proofs.Ytceeipejhmnkfaa
