/-
  An arena in memory, and the contracts of its small functions: Split, join, New, find.
-/
import Derived.Test.YtmampaglemleoabChecked
import Derived.Test.YtmampaglemleoabAeM
import Derived.Test.YtmampaglemleoabLib
import Derived.WalkKit
import Derived.ProofKit
import Derived.OpenShut
import Derived.WalkSpells
import Derived.WalkLawsBesides
import Derived.Laws.Rows
import Derived.Laws.BitsAllLaws
import Derived.Laws.OwnMore
import Derived.Deep.AppendLies
import Derived.Deep.RegionLaw
import Derived.Deep.QuietTactic
import Derived.BigQuiet
import Derived.Outline
import Derived.IntWalk
namespace Go.Proofs.Ytmampaglemleoab
open Go.ChangeShapes Go.WideShapes Go.ChangeAt Go.RowKit


theorem or_32 {g x : Int} (h2 : 0 ≤ g) (h3 : g ≤ 4294967295) (h0 : 0 ≤ x) (h1 : x ≤ 4294967295) : bits .or .u64 (g * 4294967296) x = g * 4294967296 + x := by
  obtain ⟨a, rfl⟩ := Int.eq_ofNat_of_zero_le h2
  obtain ⟨b, rfl⟩ := Int.eq_ofNat_of_zero_le h0
  have h4 := u64_or_nat (a * 4294967296) b (by omega) (by omega)
  have h5 : (a * 4294967296 ||| b) = a * 4294967296 + b := by
    have := (Nat.two_pow_add_eq_or_of_lt (i := 32) (show b < 2 ^ 32 by omega) a).symm
    rw [Nat.mul_comm] at this; exact this
  rw [h5] at h4
  simp only [Int.natCast_mul, Int.natCast_add] at h4
  exact h4
theorem ret_u64 {a b : Int} (h : a = b) : Ending.returned (.int .u64 a) = .returned (.int .u64 b) := by rw [h]

theorem Split_any (h : Int) (w : World) (h0 : 0 ≤ h) (h1 : h ≤ 18446744073709551615) : Calls Try.prog 45 #[.int .u64 h] w fun e w' => e = .returned (.tuple #[.int .i64 (h % 4294967296 - 1), .int .u32 (h / 4294967296)]) ∧ w = w' := by
  go_enter Try.func45, Try.ntmps45
  go_wp2
  go_ret2
  exact ⟨rfl, rfl⟩
theorem join_any (p g : Int) (w : World) (h0 : 0 ≤ p) (h1 : p ≤ 65536) (h2 : 0 ≤ g) (h3 : g ≤ 4294967295) : Calls Try.prog 42 #[.int .i64 p, .int .u32 g] w fun e w' => e = .returned (.int .u64 (g * 4294967296 + p + 1)) ∧ w = w' := by
  have ho := hid (or_32 (x := p + 1) h2 h3 (by omega) (by omega))
  go_enter Try.func42, Try.ntmps42
  go_wp2
  go_ret
  exact ⟨ret_u64 (by rw [ho.out]; omega), rfl⟩
theorem New_arena (m f : Int) (w : World) (h0 : 1 ≤ m) (h1 : m ≤ 65536) (h2 : 1 ≤ f) (h3 : f ≤ 4294967295) : Calls Try.prog 22 #[.int .i64 m, .int .u32 f] w fun e w' => e = .returned (.tuple #[.pointer (some ⟨w.heap.size, 0, none⟩), .int .i64 0]) ∧ w' = w.alloc (.cells #[.int .i64 m, .int .u32 f, .slice none 0 0, .slice none 0 0, .int .i64 0] 89) := by
  have hf : ¬ f = 0 := by omega
  have hf2 : (f == 0) = false := by simpa using hf
  have Hm : (decide (m < 1)) = false := by simp; omega
  have Hm2 : (decide (65536 < m)) = false := by simp; omega
  go_enter Try.func22, Try.ntmps22
  go_wp2
  go_ret2
  exact ⟨rfl, rfl⟩
theorem New_arena_not (m f : Int) (w : World) (h : m < 1 ∨ 65536 < m ∨ f = 0) : Calls Try.prog 22 #[.int .i64 m, .int .u32 f] w fun e w' => e = .returned (.tuple #[.pointer none, .int .i64 1]) ∧ w = w' := by
  by_cases h1 : m < 1
  · have Hm : (decide (m < 1)) = true := by simpa using h1
    clear h
    go_enter Try.func22, Try.ntmps22
    go_wp2
    go_ret2
    exact ⟨rfl, rfl⟩
  · have Hm : (decide (m < 1)) = false := by simpa using h1
    by_cases h2 : 65536 < m
    · have Hm2 : (decide (65536 < m)) = true := by simpa using h2
      clear h
      go_enter Try.func22, Try.ntmps22
      go_wp2
      go_ret2
      exact ⟨rfl, rfl⟩
    · have Hm2 : (decide (65536 < m)) = false := by simpa using h2
      obtain rfl : f = 0 := by omega
      clear h
      go_enter Try.func22, Try.ntmps22
      go_wp2
      go_ret2
      exact ⟨rfl, rfl⟩

/-- An arena of numbers in memory: its block, its places' row, its free places' row. -/
structure ArW (w : World) (p : Nat) (cv fv : Value) (A : Ar) (c : Nat) : Prop where
  hp : w.heap[p]? = some (.cells #[.int .i64 A.most, .int .u32 A.first, cv, fv, .int .i64 c] 89 (0, 0))
  hc : w.ownsRow 0 101 3 cv A.L.length (rowE A.L)
  hf : w.ownsRow 0 3 1 fv A.F.length (rowF A.F)
  d1 : cv.ownBlock ≠ some p
  d2 : fv.ownBlock ≠ some p
  d3 : ∀ k, cv.ownBlock = some k → fv.ownBlock ≠ some k
section
variable {w : World} {p : Nat} {cv fv : Value} {A : Ar} {c : Nat}
theorem ArW.c0 (h : ArW w p cv fv A c) : w.cell? ⟨p, 0, none⟩ = some (.int .i64 A.most) := by rw [cell_of_row w p 0 _ 89 _ h.hp]; rfl
theorem ArW.c1 (h : ArW w p cv fv A c) : w.cell? ⟨p, 1, none⟩ = some (.int .u32 A.first) := by rw [cell_of_row w p 1 _ 89 _ h.hp]; rfl
theorem ArW.c2 (h : ArW w p cv fv A c) : w.cell? ⟨p, 2, none⟩ = some cv := by rw [cell_of_row w p 2 _ 89 _ h.hp]; rfl
theorem ArW.c3 (h : ArW w p cv fv A c) : w.cell? ⟨p, 3, none⟩ = some fv := by rw [cell_of_row w p 3 _ 89 _ h.hp]; rfl
theorem ArW.c4 (h : ArW w p cv fv A c) : w.cell? ⟨p, 4, none⟩ = some (.int .i64 c) := by rw [cell_of_row w p 4 _ 89 _ h.hp]; rfl
theorem ArW.fz (h : ArW w p cv fv A c) (k : Nat) : w.frozen? ⟨p, k, none⟩ = false := frozen_of_row w p k _ 89 h.hp
theorem ArW.shape (h : ArW w p cv fv A c) : ∃ a k, cv = .slice a A.L.length k := by
  rcases h.hc.2 with ⟨h1, h2⟩ | ⟨g, cap, _, h1, _⟩
  · exact ⟨none, 0, by rw [h1, h2]⟩
  · exact ⟨_, cap, h1⟩
theorem ArW.shapeF (h : ArW w p cv fv A c) : ∃ a k, fv = .slice a A.F.length k := by
  rcases h.hf.2 with ⟨h1, h2⟩ | ⟨g, cap, _, h1, _⟩
  · exact ⟨none, 0, by rw [h1, h2]⟩
  · exact ⟨_, cap, h1⟩
theorem ArW.form (h : ArW w p cv fv A c) {i : Nat} {s : Spot} (hs : A.L[i]? = some s) : ∃ g k, cv = .slice (some ⟨g, 0, none⟩) A.L.length k := by
  have hlt : i < A.L.length := (List.getElem?_eq_some_iff.1 hs).1
  obtain ⟨g, k, h1, _⟩ := h.hc.form (by omega)
  exact ⟨g, k, h1⟩
theorem ArW.at (h : ArW w p cv fv A c) {i g k : Nat} {s : Spot} (hs : A.L[i]? = some s) (hcv : cv = .slice (some ⟨g, 0, none⟩) A.L.length k) (j : Nat) (hj : j < 3) : w.cell? ⟨g, i * 3 + j, none⟩ = s.cellsE[j]? := by
  have hlt : i < A.L.length := (List.getElem?_eq_some_iff.1 hs).1
  have hc := h.hc
  subst hcv
  rw [hc.cellAt (i * 3 + j) (by omega), rowE_at _ _ _ _ hs hj]
end

/-- find: there is something. -/
theorem find_yes (w : World) (p : Nat) (fv : Value) (A : Ar) (c i g k : Nat) (s : Spot) (h : ArW w p (.slice (some ⟨g, 0, none⟩) A.L.length k) fv A c) (hs : A.L[i]? = some s) (ht : s.t = true) (hl : A.L.length ≤ 65536) (hg : s.g ≤ 4294967295) :
    Calls Try.prog 44 #[.pointer (some ⟨p, 0, none⟩), .int .u64 (hand i s.g)] w fun e w' => e = .returned (.pointer (some ⟨g, i * 3, none⟩)) ∧ w = w' := by
  have hlt : i < A.L.length := (List.getElem?_eq_some_iff.1 hs).1
  have c2 := h.c2
  have g1 := h.at hs rfl 1 (by omega)
  have g2 := h.at hs rfl 2 (by omega)
  simp only [Spot.cellsE, ht] at g1 g2
  have hsp := Split_any (hand i s.g) w (by unfold hand; omega) (by unfold hand; omega)
  have e1 : hand i s.g % 4294967296 - 1 = i := by unfold hand; omega
  have e2 : hand i s.g / 4294967296 = s.g := by unfold hand; omega
  rw [e1, e2] at hsp
  generalize hand i s.g = hd at *
  generalize s.g = sg at *
  generalize A.L.length = n at *
  clear e1 e2 hs ht h
  go_enter Try.func44, Try.ntmps44
  go_wp2_with (refine hsp.mono ?_; rintro e w' ⟨rfl, rfl⟩)
  go_ret
  exact ⟨rfl, rfl⟩
/-- find: the arena is none. -/
theorem find_nil (hd : Int) (w : World) (h0 : 0 ≤ hd) (h1 : hd ≤ 18446744073709551615) : Calls Try.prog 44 #[.pointer none, .int .u64 hd] w fun e w' => e = .returned (.pointer none) ∧ w = w' := by
  have hsp := Split_any hd w h0 h1
  go_enter Try.func44, Try.ntmps44
  go_wp2_with (refine hsp.mono ?_; rintro e w' ⟨rfl, rfl⟩)
  go_ret
  exact ⟨rfl, rfl⟩
/-- find: there is nothing. -/
theorem find_no (w : World) (p : Nat) (cv fv : Value) (A : Ar) (c : Nat) (hd : Int) (h : ArW w p cv fv A c) (hst : Stale A hd) (hA : Ok A) (h0 : 0 ≤ hd) (h1 : hd ≤ 18446744073709551615) :
    Calls Try.prog 44 #[.pointer (some ⟨p, 0, none⟩), .int .u64 hd] w fun e w' => e = .returned (.pointer none) ∧ w = w' := by
  have hl := Nat.le_trans hA.len hA.m2
  have hsp := Split_any hd w h0 h1
  obtain ⟨q, hq⟩ : ∃ q, q = hd % 4294967296 - 1 := ⟨_, rfl⟩
  obtain ⟨r, hr⟩ : ∃ r, r = hd / 4294967296 := ⟨_, rfl⟩
  have hr0 : 0 ≤ r := by omega
  have hr1 : r ≤ 4294967295 := by omega
  have hdq : hd = r * 4294967296 + (q + 1) := by omega
  have hq0 : -1 ≤ q := by omega
  have hq1 : q ≤ 4294967294 := by omega
  rw [← hq, ← hr] at hsp
  have HS := hid hsp
  have HD := hid hdq
  clear hq hr hdq h0 h1 hsp
  have c2 := h.c2
  obtain ⟨ad, k, hcv⟩ := h.shape
  by_cases q0 : q < 0
  · have hb : decide (q < 0) = true := by simpa using q0
    clear hst h hA c2
    go_enter Try.func44, Try.ntmps44
    go_wp2_with (refine HS.out.mono ?_; rintro e w' ⟨rfl, rfl⟩)
    go_ret
    exact ⟨rfl, rfl⟩
  · obtain ⟨i, rfl⟩ := Int.eq_ofNat_of_zero_le (show 0 ≤ q by omega)
    by_cases hlt : i < A.L.length
    · have hs : A.L[i]? = some A.L[i] := List.getElem?_eq_getElem hlt
      generalize A.L[i] = s at hs
      obtain ⟨g, k', hcv2⟩ := h.form hs
      have g1 := h.at hs hcv2 1 (by omega)
      have g2 := h.at hs hcv2 2 (by omega)
      have hgen := hA.gen i s hs
      rw [hcv2] at c2
      simp only [Spot.cellsE, List.getElem?_cons_succ, List.getElem?_cons_zero] at g1 g2
      obtain ⟨x, sg, t⟩ := s
      simp only at g1 g2 hgen
      cases t with
      | false =>
        generalize A.L.length = n at *
        clear hst h hA hs hcv hcv2
        go_enter Try.func44, Try.ntmps44
        go_wp2_with (refine HS.out.mono ?_; rintro e w' ⟨rfl, rfl⟩)
        go_ret
        exact ⟨rfl, rfl⟩
      | true =>
        have hne : ((sg : Int) != r) = true := by
          have : (sg : Int) ≠ r := fun e => hst i ⟨x, sg, true⟩ ⟨hs, rfl, by rw [HD.out, ← e]; unfold hand; simp; omega⟩
          simpa using this
        generalize A.L.length = n at *
        clear hst h hA hs hcv hcv2
        go_enter Try.func44, Try.ntmps44
        go_wp2_with (refine HS.out.mono ?_; rintro e w' ⟨rfl, rfl⟩)
        go_ret
        exact ⟨rfl, rfl⟩
    · have hb : decide (A.L.length ≤ i) = true := by simp; omega
      rw [hcv] at c2
      generalize A.L.length = n at *
      clear hst h hA hcv
      go_enter Try.func44, Try.ntmps44
      go_wp2_with (refine HS.out.mono ?_; rintro e w' ⟨rfl, rfl⟩)
      go_ret
      exact ⟨rfl, rfl⟩
end Go.Proofs.Ytmampaglemleoab
