/- AeM AeA AeB AeC AeD in one -/
import Derived.Test.YtmkajdfajcodjaaArM
import Derived.Test.YtmkajdfajcodjaaChecked
import Derived.Test.YtmkajdfajcodjaaLib
import Derived.WalkKit
import Derived.ProofKit
import Derived.OpenShut
import Derived.WalkSpells
import Derived.WalkLawsBesides
import Derived.Laws.Rows
import Derived.Laws.BitsAllLaws
import Derived.Laws.OwnMore
import Derived.Deep.AppendLies
import Derived.Deep.RegionLaw
import Derived.Deep.QuietTactic
import Derived.BigQuiet
import Derived.Outline
import Derived.IntWalk
import Derived.Test.YtmkajdfajcodjaaFr
import Derived.Test.YtmkajdfajcodjaaMix
import Derived.Below
import Derived.OwnWalk
import Derived.Deep.Cut
namespace Go.Proofs.Ytmkajdfajcodjaa
open Go

/-- A pointer at a block, by the block's number and one; 0: none. -/
def encP : Int → Option Addr
  | .ofNat (n + 1) => some ⟨n, 0, none⟩
  | _ => none
abbrev encE (x : Int) : Value := .pointer (encP x)
theorem encE_one (x : Int) : (encE x).oneCell' = true := rfl
theorem encE_zero : encE 0 = .pointer none := rfl
theorem encE_ptr (b : Nat) : encE ((b + 1 : Nat) : Int) = .pointer (some ⟨b, 0, none⟩) := rfl
def Spot.cellsE (s : Spot) : List Value := [encE s.x, .int .u32 s.g, .bool s.t]
def rowE (L : List Spot) : List Value := L.flatMap Spot.cellsE
theorem rowE_len (L : List Spot) : (rowE L).length = L.length * 3 := by
  induction L with
  | nil => rfl
  | cons s L ih => simp only [rowE, List.flatMap_cons, List.length_append, List.length_cons] at ih ⊢; rw [ih]; simp only [Spot.cellsE, List.length_cons, List.length_nil]; omega
theorem rowE_append (L M : List Spot) : rowE (L ++ M) = rowE L ++ rowE M := by simp [rowE]
theorem rowE_at (L : List Spot) (i j : Nat) (s : Spot) (h : L[i]? = some s) (hj : j < 3) : (rowE L)[i * 3 + j]? = s.cellsE[j]? := by
  induction L generalizing i with
  | nil => simp at h
  | cons a L ih =>
    have e : rowE (a :: L) = a.cellsE ++ rowE L := by simp [rowE]
    rw [e]
    cases i with
    | zero =>
      simp at h; subst h
      rw [List.getElem?_append_left (by simp [Spot.cellsE]; omega)]; simp
    | succ i =>
      simp at h
      rw [List.getElem?_append_right (by simp [Spot.cellsE]; omega)]
      have : (i + 1) * 3 + j - a.cellsE.length = i * 3 + j := by simp [Spot.cellsE]; omega
      rw [this]; exact ih i h
theorem rowE_set (L : List Spot) (i j : Nat) (s s' : Spot) (v : Value) (h : L[i]? = some s) (hj : j < 3) (hs : s.cellsE.set j v = s'.cellsE) : (rowE L).set (i * 3 + j) v = rowE (L.set i s') := by
  induction L generalizing i with
  | nil => simp at h
  | cons a L ih =>
    have e : rowE (a :: L) = a.cellsE ++ rowE L := by simp [rowE]
    rw [e]
    cases i with
    | zero =>
      simp at h; subst h
      rw [List.set_append_left _ _ (by simp [Spot.cellsE]; omega)]
      simp only [List.set_cons_zero]
      have e2 : rowE (s' :: L) = s'.cellsE ++ rowE L := by simp [rowE]
      rw [e2]; congr 1; simpa using hs
    | succ i =>
      simp at h
      rw [List.set_append_right _ _ (by simp [Spot.cellsE]; omega)]
      have : (i + 1) * 3 + j - a.cellsE.length = i * 3 + j := by simp [Spot.cellsE]; omega
      rw [this, ih i h]
      simp [rowE]
theorem rowE_one (L : List Spot) : ∀ u ∈ rowE L, u.oneCell' = true := fun u hu => by
  obtain ⟨s, _, hs⟩ := List.mem_flatMap.1 hu
  simp [Spot.cellsE] at hs
  rcases hs with rfl | rfl | rfl
  · exact encE_one _
  · rfl
  · rfl
end Go.Proofs.Ytmkajdfajcodjaa

namespace Go.Proofs.Ytmkajdfajcodjaa
open Go.ChangeShapes Go.WideShapes Go.ChangeAt Go.RowKit


theorem or_32 {g x : Int} (h2 : 0 ≤ g) (h3 : g ≤ 4294967295) (h0 : 0 ≤ x) (h1 : x ≤ 4294967295) : bits .or .u64 (g * 4294967296) x = g * 4294967296 + x := by
  obtain ⟨a, rfl⟩ := Int.eq_ofNat_of_zero_le h2
  obtain ⟨b, rfl⟩ := Int.eq_ofNat_of_zero_le h0
  have h4 := u64_or_nat (a * 4294967296) b (by omega) (by omega)
  have h5 : (a * 4294967296 ||| b) = a * 4294967296 + b := by
    have := (Nat.two_pow_add_eq_or_of_lt (i := 32) (show b < 2 ^ 32 by omega) a).symm
    rw [Nat.mul_comm] at this; exact this
  rw [h5] at h4
  simp only [Int.natCast_mul, Int.natCast_add] at h4
  exact h4
theorem ret_u64 {a b : Int} (h : a = b) : Ending.returned (.int .u64 a) = .returned (.int .u64 b) := by rw [h]

theorem Split_any (h : Int) (w : World) (h0 : 0 ≤ h) (h1 : h ≤ 18446744073709551615) : Calls Try.prog 78 #[.int .u64 h] w fun e w' => e = .returned (.tuple #[.int .i64 (h % 4294967296 - 1), .int .u32 (h / 4294967296)]) ∧ w = w' := by
  go_enter Try.func78, Try.ntmps78
  go_wp2
  go_ret2
  exact ⟨rfl, rfl⟩
theorem join_any (p g : Int) (w : World) (h0 : 0 ≤ p) (h1 : p ≤ 65536) (h2 : 0 ≤ g) (h3 : g ≤ 4294967295) : Calls Try.prog 64 #[.int .i64 p, .int .u32 g] w fun e w' => e = .returned (.int .u64 (g * 4294967296 + p + 1)) ∧ w = w' := by
  have ho := hid (or_32 (x := p + 1) h2 h3 (by omega) (by omega))
  go_enter Try.func64, Try.ntmps64
  go_wp2
  go_ret
  exact ⟨ret_u64 (by rw [ho.out]; omega), rfl⟩
theorem New_arena (m f : Int) (w : World) (h0 : 1 ≤ m) (h1 : m ≤ 65536) (h2 : 1 ≤ f) (h3 : f ≤ 4294967295) : Calls Try.prog 34 #[.int .i64 m, .int .u32 f] w fun e w' => e = .returned (.tuple #[.pointer (some ⟨w.heap.size, 0, none⟩), .int .i64 0]) ∧ w' = w.alloc (.cells #[.int .i64 m, .int .u32 f, .slice none 0 0, .slice none 0 0, .int .i64 0] 128) := by
  have hf : ¬ f = 0 := by omega
  have hf2 : (f == 0) = false := by simpa using hf
  have Hm : (decide (m < 1)) = false := by simp; omega
  have Hm2 : (decide (65536 < m)) = false := by simp; omega
  go_enter Try.func34, Try.ntmps34
  go_wp2
  go_ret2
  exact ⟨rfl, rfl⟩
theorem New_arena_not (m f : Int) (w : World) (h : m < 1 ∨ 65536 < m ∨ f = 0) : Calls Try.prog 34 #[.int .i64 m, .int .u32 f] w fun e w' => e = .returned (.tuple #[.pointer none, .int .i64 1]) ∧ w = w' := by
  by_cases h1 : m < 1
  · have Hm : (decide (m < 1)) = true := by simpa using h1
    clear h
    go_enter Try.func34, Try.ntmps34
    go_wp2
    go_ret2
    exact ⟨rfl, rfl⟩
  · have Hm : (decide (m < 1)) = false := by simpa using h1
    by_cases h2 : 65536 < m
    · have Hm2 : (decide (65536 < m)) = true := by simpa using h2
      clear h
      go_enter Try.func34, Try.ntmps34
      go_wp2
      go_ret2
      exact ⟨rfl, rfl⟩
    · have Hm2 : (decide (65536 < m)) = false := by simpa using h2
      obtain rfl : f = 0 := by omega
      clear h
      go_enter Try.func34, Try.ntmps34
      go_wp2
      go_ret2
      exact ⟨rfl, rfl⟩

/-- An arena of numbers in memory: its block, its places' row, its free places' row. -/
structure ArW (w : World) (p : Nat) (cv fv : Value) (A : Ar) (c : Nat) : Prop where
  hp : w.heap[p]? = some (.cells #[.int .i64 A.most, .int .u32 A.first, cv, fv, .int .i64 c] 128 (0, 0))
  hc : w.ownsRow 0 140 3 cv A.L.length (rowE A.L)
  hf : w.ownsRow 0 3 1 fv A.F.length (rowF A.F)
  d1 : cv.ownBlock ≠ some p
  d2 : fv.ownBlock ≠ some p
  d3 : ∀ k, cv.ownBlock = some k → fv.ownBlock ≠ some k
section
variable {w : World} {p : Nat} {cv fv : Value} {A : Ar} {c : Nat}
theorem ArW.c0 (h : ArW w p cv fv A c) : w.cell? ⟨p, 0, none⟩ = some (.int .i64 A.most) := by rw [cell_of_row w p 0 _ 128 _ h.hp]; rfl
theorem ArW.c1 (h : ArW w p cv fv A c) : w.cell? ⟨p, 1, none⟩ = some (.int .u32 A.first) := by rw [cell_of_row w p 1 _ 128 _ h.hp]; rfl
theorem ArW.c2 (h : ArW w p cv fv A c) : w.cell? ⟨p, 2, none⟩ = some cv := by rw [cell_of_row w p 2 _ 128 _ h.hp]; rfl
theorem ArW.c3 (h : ArW w p cv fv A c) : w.cell? ⟨p, 3, none⟩ = some fv := by rw [cell_of_row w p 3 _ 128 _ h.hp]; rfl
theorem ArW.c4 (h : ArW w p cv fv A c) : w.cell? ⟨p, 4, none⟩ = some (.int .i64 c) := by rw [cell_of_row w p 4 _ 128 _ h.hp]; rfl
theorem ArW.fz (h : ArW w p cv fv A c) (k : Nat) : w.frozen? ⟨p, k, none⟩ = false := frozen_of_row w p k _ 128 h.hp
theorem ArW.shape (h : ArW w p cv fv A c) : ∃ a k, cv = .slice a A.L.length k := by
  rcases h.hc.2 with ⟨h1, h2⟩ | ⟨g, cap, _, h1, _⟩
  · exact ⟨none, 0, by rw [h1, h2]⟩
  · exact ⟨_, cap, h1⟩
theorem ArW.shapeF (h : ArW w p cv fv A c) : ∃ a k, fv = .slice a A.F.length k := by
  rcases h.hf.2 with ⟨h1, h2⟩ | ⟨g, cap, _, h1, _⟩
  · exact ⟨none, 0, by rw [h1, h2]⟩
  · exact ⟨_, cap, h1⟩
theorem ArW.form (h : ArW w p cv fv A c) {i : Nat} {s : Spot} (hs : A.L[i]? = some s) : ∃ g k, cv = .slice (some ⟨g, 0, none⟩) A.L.length k := by
  have hlt : i < A.L.length := (List.getElem?_eq_some_iff.1 hs).1
  obtain ⟨g, k, h1, _⟩ := h.hc.form (by omega)
  exact ⟨g, k, h1⟩
theorem ArW.at (h : ArW w p cv fv A c) {i g k : Nat} {s : Spot} (hs : A.L[i]? = some s) (hcv : cv = .slice (some ⟨g, 0, none⟩) A.L.length k) (j : Nat) (hj : j < 3) : w.cell? ⟨g, i * 3 + j, none⟩ = s.cellsE[j]? := by
  have hlt : i < A.L.length := (List.getElem?_eq_some_iff.1 hs).1
  have hc := h.hc
  subst hcv
  rw [hc.cellAt (i * 3 + j) (by omega), rowE_at _ _ _ _ hs hj]
end

/-- find: there is something. -/
theorem find_yes (w : World) (p : Nat) (fv : Value) (A : Ar) (c i g k : Nat) (s : Spot) (h : ArW w p (.slice (some ⟨g, 0, none⟩) A.L.length k) fv A c) (hs : A.L[i]? = some s) (ht : s.t = true) (hl : A.L.length ≤ 65536) (hg : s.g ≤ 4294967295) :
    Calls Try.prog 74 #[.pointer (some ⟨p, 0, none⟩), .int .u64 (hand i s.g)] w fun e w' => e = .returned (.pointer (some ⟨g, i * 3, none⟩)) ∧ w = w' := by
  have hlt : i < A.L.length := (List.getElem?_eq_some_iff.1 hs).1
  have c2 := h.c2
  have g1 := h.at hs rfl 1 (by omega)
  have g2 := h.at hs rfl 2 (by omega)
  simp only [Spot.cellsE, ht] at g1 g2
  have hsp := Split_any (hand i s.g) w (by unfold hand; omega) (by unfold hand; omega)
  have e1 : hand i s.g % 4294967296 - 1 = i := by unfold hand; omega
  have e2 : hand i s.g / 4294967296 = s.g := by unfold hand; omega
  rw [e1, e2] at hsp
  generalize hand i s.g = hd at *
  generalize s.g = sg at *
  generalize A.L.length = n at *
  clear e1 e2 hs ht h
  go_enter Try.func74, Try.ntmps74
  go_wp2_with (refine hsp.mono ?_; rintro e w' ⟨rfl, rfl⟩)
  go_ret
  exact ⟨rfl, rfl⟩
/-- find: the arena is none. -/
theorem find_nil (hd : Int) (w : World) (h0 : 0 ≤ hd) (h1 : hd ≤ 18446744073709551615) : Calls Try.prog 74 #[.pointer none, .int .u64 hd] w fun e w' => e = .returned (.pointer none) ∧ w = w' := by
  have hsp := Split_any hd w h0 h1
  go_enter Try.func74, Try.ntmps74
  go_wp2_with (refine hsp.mono ?_; rintro e w' ⟨rfl, rfl⟩)
  go_ret
  exact ⟨rfl, rfl⟩
/-- find: there is nothing. -/
theorem find_no (w : World) (p : Nat) (cv fv : Value) (A : Ar) (c : Nat) (hd : Int) (h : ArW w p cv fv A c) (hst : Stale A hd) (hA : Ok A) (h0 : 0 ≤ hd) (h1 : hd ≤ 18446744073709551615) :
    Calls Try.prog 74 #[.pointer (some ⟨p, 0, none⟩), .int .u64 hd] w fun e w' => e = .returned (.pointer none) ∧ w = w' := by
  have hl := Nat.le_trans hA.len hA.m2
  have hsp := Split_any hd w h0 h1
  obtain ⟨q, hq⟩ : ∃ q, q = hd % 4294967296 - 1 := ⟨_, rfl⟩
  obtain ⟨r, hr⟩ : ∃ r, r = hd / 4294967296 := ⟨_, rfl⟩
  have hr0 : 0 ≤ r := by omega
  have hr1 : r ≤ 4294967295 := by omega
  have hdq : hd = r * 4294967296 + (q + 1) := by omega
  have hq0 : -1 ≤ q := by omega
  have hq1 : q ≤ 4294967294 := by omega
  rw [← hq, ← hr] at hsp
  have HS := hid hsp
  have HD := hid hdq
  clear hq hr hdq h0 h1 hsp
  have c2 := h.c2
  obtain ⟨ad, k, hcv⟩ := h.shape
  by_cases q0 : q < 0
  · have hb : decide (q < 0) = true := by simpa using q0
    clear hst h hA c2
    go_enter Try.func74, Try.ntmps74
    go_wp2_with (refine HS.out.mono ?_; rintro e w' ⟨rfl, rfl⟩)
    go_ret
    exact ⟨rfl, rfl⟩
  · obtain ⟨i, rfl⟩ := Int.eq_ofNat_of_zero_le (show 0 ≤ q by omega)
    by_cases hlt : i < A.L.length
    · have hs : A.L[i]? = some A.L[i] := List.getElem?_eq_getElem hlt
      generalize A.L[i] = s at hs
      obtain ⟨g, k', hcv2⟩ := h.form hs
      have g1 := h.at hs hcv2 1 (by omega)
      have g2 := h.at hs hcv2 2 (by omega)
      have hgen := hA.gen i s hs
      rw [hcv2] at c2
      simp only [Spot.cellsE, List.getElem?_cons_succ, List.getElem?_cons_zero] at g1 g2
      obtain ⟨x, sg, t⟩ := s
      simp only at g1 g2 hgen
      cases t with
      | false =>
        generalize A.L.length = n at *
        clear hst h hA hs hcv hcv2
        go_enter Try.func74, Try.ntmps74
        go_wp2_with (refine HS.out.mono ?_; rintro e w' ⟨rfl, rfl⟩)
        go_ret
        exact ⟨rfl, rfl⟩
      | true =>
        have hne : ((sg : Int) != r) = true := by
          have : (sg : Int) ≠ r := fun e => hst i ⟨x, sg, true⟩ ⟨hs, rfl, by rw [HD.out, ← e]; unfold hand; simp; omega⟩
          simpa using this
        generalize A.L.length = n at *
        clear hst h hA hs hcv hcv2
        go_enter Try.func74, Try.ntmps74
        go_wp2_with (refine HS.out.mono ?_; rintro e w' ⟨rfl, rfl⟩)
        go_ret
        exact ⟨rfl, rfl⟩
    · have hb : decide (A.L.length ≤ i) = true := by simp; omega
      rw [hcv] at c2
      generalize A.L.length = n at *
      clear hst h hA hcv
      go_enter Try.func74, Try.ntmps74
      go_wp2_with (refine HS.out.mono ?_; rintro e w' ⟨rfl, rfl⟩)
      go_ret
      exact ⟨rfl, rfl⟩
end Go.Proofs.Ytmkajdfajcodjaa

namespace Go.Proofs.Ytmkajdfajcodjaa
open Go.ChangeShapes Go.WideShapes Go.ChangeAt Go.RowKit

theorem ArW.lt {w : World} {p : Nat} {cv fv : Value} {A : Ar} {c : Nat} (h : ArW w p cv fv A c) : p < w.heap.size := (Array.getElem?_eq_some_iff.1 h.hp).1
theorem ArW.fr {w w' : World} {p : Nat} {cv fv : Value} {A : Ar} {c : Nat} {fp : Nat → Prop} (h : ArW w p cv fv A c) (hf : Fr fp w w') (hp : ¬ fp p) (hc : ∀ k, cv.ownBlock = some k → ¬ fp k) (hv : ∀ k, fv.ownBlock = some k → ¬ fp k) : ArW w' p cv fv A c :=
  ⟨by rw [hf.block p h.lt hp]; exact h.hp, hf.owns h.hc hc, hf.owns h.hf hv, h.d1, h.d2, h.d3⟩

/-- The places' row is another one, or has turned. -/
theorem ArW.newc {w w' : World} {p : Nat} {cv cv' fv : Value} {A : Ar} {c c' : Nat} (h : ArW w p cv fv A c) (L' : List Spot) (hfr : Fr (fun k => k = p ∨ cv.ownBlock = some k) w w')
    (hp : w'.heap[p]? = some (.cells #[.int .i64 A.most, .int .u32 A.first, cv', fv, .int .i64 c'] 128 (0, 0))) (hc : w'.ownsRow 0 140 3 cv' L'.length (rowE L'))
    (hown : ∀ k, cv'.ownBlock = some k → cv.ownBlock = some k ∨ w.heap.size ≤ k) : ArW w' p cv' fv { A with L := L' } c' :=
  ⟨hp, hc, hfr.owns h.hf (fun k hk e => by
      rcases e with rfl | e
      · exact h.d2 hk
      · exact h.d3 k e hk), fun e => by
      rcases hown p e with e | e
      · exact h.d1 e
      · have := h.lt; omega, h.d2, fun k hk e => by
      rcases hown k hk with e2 | e2
      · exact h.d3 k e2 e
      · have := (h.hf.lt k e).2; omega⟩
/-- The free places' row is another one, or has turned. -/
theorem ArW.newf {w w' : World} {p : Nat} {cv fv fv' : Value} {A : Ar} {c c' : Nat} (h : ArW w p cv fv A c) (F' : List Nat) (hfr : Fr (fun k => k = p ∨ fv.ownBlock = some k) w w')
    (hp : w'.heap[p]? = some (.cells #[.int .i64 A.most, .int .u32 A.first, cv, fv', .int .i64 c'] 128 (0, 0))) (hf : w'.ownsRow 0 3 1 fv' F'.length (rowF F'))
    (hown : ∀ k, fv'.ownBlock = some k → fv.ownBlock = some k ∨ w.heap.size ≤ k) : ArW w' p cv fv' { A with F := F' } c' :=
  ⟨hp, hfr.owns h.hc (fun k hk e => by
      rcases e with rfl | e
      · exact h.d1 hk
      · exact h.d3 k hk e), hf, h.d1, fun e => by
      rcases hown p e with e | e
      · exact h.d2 e
      · have := h.lt; omega, fun k hk e => by
      rcases hown k e with e2 | e2
      · exact h.d3 k hk e2
      · have := (h.hc.lt k hk).2; omega⟩

theorem infoCE : (Try.prog.info? 140).map (fun i => (i.zero, i.size, i.bytes)) = some (some (.agg #[.pointer none, .int .u32 0, .bool false]), 3, 16) := by kernel_rfl
theorem infoNE : (Try.prog.info? 3).map (fun i => (i.zero, i.size, i.bytes)) = some (some (.int .i64 0), 1, 8) := by kernel_rfl

/-- takePlace: a place that was dropped is taken again. -/
theorem take_again (w : World) (p : Nat) (cv fv : Value) (A : Ar) (c i : Nat) (F : List Nat) (h : ArW w p cv fv A c) (hF : A.F = F ++ [i]) (hl : A.F.length ≤ 65536) :
    Calls Try.prog 63 #[.pointer (some ⟨p, 0, none⟩)] w fun e w' => ∃ g k, fv = .slice (some ⟨g, 0, none⟩) (F.length + 1) k ∧ e = .returned (.tuple #[.int .i64 i, .bool true]) ∧ w' = w.setCell ⟨p, 3, none⟩ (.slice (some ⟨g, 0, none⟩) F.length k) := by
  have hlen : A.F.length = F.length + 1 := by rw [hF]; simp
  have hf := h.hf
  obtain ⟨g, k, hfv, _⟩ := hf.form (by omega)
  have c3 := h.c3
  have z3 := h.fz 3
  have hcell := hf
  rw [hfv] at hcell c3
  rw [hlen] at hcell c3 hfv
  have hx := hcell.cellAt F.length (by omega)
  rw [hF] at hx
  simp only [rowF, List.map_append, List.map_cons, List.map_nil] at hx
  rw [List.getElem?_append_right (by simp)] at hx
  simp at hx
  have hk : F.length + 1 ≤ k := by
    rcases hcell.2 with ⟨h1, _⟩ | ⟨g', cap', cur, hv, hb, hg, hn, _⟩
    · cases h1
    · cases hv; exact hn
  generalize F.length = n at *
  clear hcell hf h hF
  have HV := hid hfv
  clear hfv
  go_enter Try.func63, Try.ntmps63
  go_wp2
  go_ret2
  exact ⟨g, k, HV.out, rfl, rfl⟩
/-- takePlace: there is none. -/
theorem take_none (w : World) (p : Nat) (cv fv : Value) (A : Ar) (c : Nat) (h : ArW w p cv fv A c) (hA : Ok A) (hF : Full A) :
    Calls Try.prog 63 #[.pointer (some ⟨p, 0, none⟩)] w fun e w' => e = .returned (.tuple #[.int .i64 0, .bool false]) ∧ Fr (fun _ => False) w w' := by
  obtain ⟨a, k, hcv⟩ := h.shape
  obtain ⟨a', k', hfv⟩ := h.shapeF
  have c0 := h.c0
  have c2 := h.c2
  have c3 := h.c3
  have hl := hA.m2
  rw [hcv, hF.2] at c2
  rw [hfv, hF.1, List.length_nil] at c3
  clear hcv hfv h hF
  generalize A.most = m at *
  go_enter Try.func63, Try.ntmps63
  go_wp2
  go_quiet (fail)
  go_wp2
  go_ret2
  exact ⟨rfl, (Fr.refl _ _).drewN _⟩
/-- takePlace: a place where nothing ever was. -/
theorem take_fresh (w : World) (p : Nat) (cv fv : Value) (A : Ar) (c : Nat) (h : ArW w p cv fv A c) (hA : Ok A) (hF : A.F = []) (hlt : A.L.length < A.most) :
    Calls Try.prog 63 #[.pointer (some ⟨p, 0, none⟩)] w fun e w' => ∃ cv', e = .returned (.tuple #[.int .i64 A.L.length, .bool true]) ∧ ArW w' p cv' fv { A with L := A.L ++ [⟨0, A.first, false⟩] } c ∧
      Fr (fun k => k = p ∨ cv.ownBlock = some k) w w' ∧ (∀ k, cv'.ownBlock = some k → cv.ownBlock = some k ∨ w.heap.size ≤ k) := by
  obtain ⟨a, k, hcv⟩ := h.shape
  obtain ⟨a', k', hfv⟩ := h.shapeF
  have c0 := h.c0
  have c1 := h.c1
  have c2 := h.c2
  have c3 := h.c3
  have z2 := h.fz 2
  have hl := hA.m2
  rw [hcv] at c2
  rw [hfv, hF, List.length_nil] at c3
  obtain ⟨i0, hi, hz0, hz1, hz2⟩ := info_parts infoCE
  have hi' := hid hi
  have hz0' := hid hz0
  have hz1' := hid hz1
  have hz2' := hid hz2
  have hcv' := hid hcv
  have hfv' := hid hfv
  have hF' := hid hF
  clear hi hz0 hz1 hz2 hcv hfv hF
  have hc := h.hc
  have hplt := h.lt
  have hd1 := h.d1
  generalize hn : A.L.length = n at *
  have hn' := hid hn
  clear hn
  go_enter Try.func63, Try.ntmps63
  go_wp2
  go_quiet (fail)
  go_wp2
  refine wp_region_mix [0, 0, 0, 0, 1, 0, 0, 0, 1, 0, 2, 2, 0, 0, 3] (fun W => W.cell? ⟨p, 1, none⟩ = some (.int .u32 A.first) ∧ W.cell? ⟨p, 2, none⟩ = some (.slice a n k)) (by kernel_rfl) (by kernel_rfl) ⟨by simpa using c1, by simpa using c2⟩ ?_
  repeat (first
    | (refine' wpMix_value _ rfl rfl _ _; rotate_left; (solve | (intro W; go_simp) | (intro W; go_simp; with_reducible rfl)); simp only [Act.put, List.setIfInBounds_toArray, List.set_cons_zero, List.set_cons_succ])
    | (refine' wpMix_read _ rfl rfl _ _; rotate_left; (solve | (rintro W ⟨h1, h2⟩; go_simp) | (rintro W ⟨h1, h2⟩; go_simp; with_reducible rfl)); simp only [Act.put, List.setIfInBounds_toArray, List.set_cons_zero, List.set_cons_succ]))
  clear c0 c3
  obtain ⟨w2, hw2⟩ : ∃ w2, w2 = w.drewN (nq + 1) := ⟨_, rfl⟩
  rw [World.drew_drewN, ← hw2]
  have hc2 : w2.ownsRow 0 140 3 (.slice a n k) n (rowE A.L) := by rw [hw2, ← hcv'.out]; exact hc
  have c12 : w2.cell? ⟨p, 1, none⟩ = some (.int .u32 A.first) := by rw [hw2]; exact c1
  have c22 : w2.cell? ⟨p, 2, none⟩ = some (.slice a n k) := by rw [hw2]; exact c2
  have hp2 : p < w2.heap.size := by rw [hw2]; exact hplt
  have HW := hid hw2
  have HC := hid hc2
  clear hw2 hc hc2
  refine wpMix_write (.slice (some ⟨w2.heap.size, 0, none⟩) 1 1) (w2.alloc (.cells #[.pointer none, .int .u32 A.first, .bool false] 140)) (by decide) rfl ?nrun1 ?nS1 ?nrest1
  case nrun1 => go_simp
  case nS1 => exact fun _ => ⟨by rw [World.cell?_of_block (Below.heap_alloc _ _ _ hp2)]; exact c12, by rw [World.cell?_of_block (Below.heap_alloc _ _ _ hp2)]; exact c22⟩
  simp only [Act.put, List.setIfInBounds_toArray, List.set_cons_zero, List.set_cons_succ]
  refine wpMix_append (by decide) rfl (.tmp 45) (.tmp 51) 126 rfl 0 140 i0 _ 3 16 Try.underlying126 hi'.out hz0'.out hz1'.out hz2'.out rfl (by decide) (.slice a n k) n _ rfl (HC.out.alloc _) ⟨w2.heap.size, 0, none⟩ 1 1 [.pointer none, .int .u32 A.first, .bool false] rfl rfl (World.news_of_block (heap_alloc_new _ _)) (by simp [Value.oneCell']) (by decide) (by unfold maxLen; omega) (by omega) (Nat.zero_le _) (w2.heap.size + 1) (by simp) ?_
  intro g3 k3 w3 hown3 hgrow3 hat3 hlt3
  have hd1' : (Value.slice a n k).ownBlock ≠ some p := by rw [← hcv'.out]; exact hd1
  have hb3 : w3.heap[p]? = w2.heap[p]? := by
    rw [hgrow3.block p (by simp; omega) (fun e => hd1' e.symm)]; exact Below.heap_alloc _ _ _ hp2
  have c13 : w3.cell? ⟨p, 1, none⟩ = some (.int .u32 A.first) := (World.cell?_of_block hb3).trans c12
  have c23 : w3.cell? ⟨p, 2, none⟩ = some (.slice a n k) := (World.cell?_of_block hb3).trans c22
  have z23 : w3.frozen? ⟨p, 2, none⟩ = false := by rw [World.frozen?_of_block hb3, HW.out]; exact z2
  refine ⟨fun _ => ⟨c13, c23⟩, ?_⟩
  have HO := hid hown3
  have HG := hid hgrow3
  have HA3 := hid hat3
  have HB := hid hb3
  clear hown3 hgrow3 hat3 c12 c22 c1 c2 z2 hb3
  simp only [Act.put, List.setIfInBounds_toArray, List.set_cons_zero, List.set_cons_succ]
  repeat (first
    | (refine' wpMix_value _ rfl rfl _ _; rotate_left; (solve | (intro W; go_simp) | (intro W; go_simp; with_reducible rfl)); simp only [Act.put, List.setIfInBounds_toArray, List.set_cons_zero, List.set_cons_succ]))
  refine wpMix_skip (w3.setCell ⟨p, 2, none⟩ (.slice (some ⟨g3, 0, none⟩) (n + 1) k3)) (by decide) rfl ?nrun2 (fun h => by cases h) ?nrest2
  case nrun2 => go_simp
  simp only [Act.put]
  refine wpMix_end ?_
  go_wp2
  have hg3 : ∀ k, (Value.slice (some ⟨g3, 0, none⟩) (n + 1) k3).ownBlock = some k → cv.ownBlock = some k ∨ w.heap.size ≤ k := fun k hk => by
    simp [Value.ownBlock] at hk
    subst hk
    rcases HA3.out with e | e
    · left; rw [hcv'.out]; exact e
    · right; have : w2.heap.size = w.heap.size := by rw [HW.out]; rfl
      omega
  have hfr : Fr (fun k => k = p ∨ cv.ownBlock = some k) w (w3.setCell ⟨p, 2, none⟩ (.slice (some ⟨g3, 0, none⟩) (n + 1) k3)) := by
    refine Fr.setCell ?_ _ _ (fun _ => .inl rfl)
    have h2 : Fr (fun k => k = p ∨ cv.ownBlock = some k) w w2 := by rw [HW.out]; exact (Fr.refl _ _).drewN _
    exact (h2.alloc _).grown HG.out (fun k hk _ => .inr (by rw [hcv'.out]; exact hk))
  have hg3p : g3 ≠ p := fun e => by
    rcases hg3 p (by simp [Value.ownBlock, e]) with e | e
    · exact hd1 e
    · omega
  have hpw : w3.heap[p]? = some (.cells #[.int .i64 A.most, .int .u32 A.first, cv, fv, .int .i64 c] 128 (0, 0)) := by
    rw [HB.out, HW.out]; exact h.hp
  have hnew := h.newc (A.L ++ [⟨0, A.first, false⟩]) hfr (by rw [heap_setCell_same _ _ _ _ _ _ hpw]; rfl) (cv' := .slice (some ⟨g3, 0, none⟩) (n + 1) k3) (c' := c)
    (by
      rw [List.length_append, hn'.out, rowE_append]
      exact ownsRow_setCell_other HO.out (by simp [Value.ownBlock]; exact hg3p) _) hg3
  have hnew' := hid hnew
  have hfr' := hid hfr
  have hg3' := hid hg3
  clear hnew hfr hg3 hpw hg3p h
  go_ret2
  exact ⟨_, rfl, hnew'.out, hfr'.out, hg3'.out⟩
end Go.Proofs.Ytmkajdfajcodjaa

namespace Go.Proofs.Ytmkajdfajcodjaa
open Go.ChangeShapes Go.WideShapes Go.ChangeAt Go.RowKit

/-- takePlace, whichever place it is. -/
def TakePost (w : World) (p : Nat) (cv fv : Value) (A A' : Ar) (c i g : Nat) (x : Int) (e : Ending) (w' : World) : Prop :=
  ∃ cv1 fv1 L1 s1, e = .returned (.tuple #[.int .i64 i, .bool true]) ∧ ArW w' p cv1 fv1 { A with L := L1, F := A'.F } c ∧ Fr (fun k => k = p ∨ cv.ownBlock = some k) w w' ∧
    (∀ k, cv1.ownBlock = some k → cv.ownBlock = some k ∨ w.heap.size ≤ k) ∧ (∀ k, fv1.ownBlock = some k → fv.ownBlock = some k) ∧ L1[i]? = some s1 ∧ s1.g = g ∧ s1.t = false ∧ cnt L1 = cnt A.L ∧ A' = { A with L := L1.set i ⟨x, g, true⟩, F := A'.F }
theorem take_some (w : World) (p : Nat) (cv fv : Value) (A A' : Ar) (c i g : Nat) (x : Int) (h : ArW w p cv fv A c) (hA : Ok A) (hp : Put A x i g A') :
    Calls Try.prog 63 #[.pointer (some ⟨p, 0, none⟩)] w (TakePost w p cv fv A A' c i g x) := by
  cases hp with
  | again F i s hF hs =>
    refine (take_again w p cv fv A c i F h hF (by have := hA.fl; have := hA.len; have := hA.m2; omega)).mono ?_
    rintro e w' ⟨b, k, hfv, rfl, rfl⟩
    obtain ⟨s', hs', ht⟩ := hA.fr i (by rw [hF]; simp)
    rw [hs] at hs'; cases hs'
    have hfr : Fr (fun k => k = p) w (w.setCell ⟨p, 3, none⟩ (.slice (some ⟨b, 0, none⟩) F.length k)) := (Fr.refl _ _).setCell _ _ (fun _ => rfl)
    refine ⟨cv, .slice (some ⟨b, 0, none⟩) F.length k, A.L, s, rfl, ?_, hfr.mono (fun _ e _ => .inl e), fun k hk => .inl hk, fun k hk => by rw [hfv]; exact hk, hs, rfl, ht, rfl, rfl⟩
    refine h.newf F (hfr.mono (fun _ e _ => .inl e)) (by rw [heap_setCell_same _ _ _ _ _ _ h.hp]; rfl) ?_ (fun k hk => .inl (by rw [hfv]; exact hk))
    have h1 := h.hf
    rw [hfv, hF] at h1
    have hbp : b ≠ p := fun e => h.d2 (by rw [hfv, e]; rfl)
    refine ownsRow_setCell_other ?_ (by simp [Value.ownBlock]; exact hbp) _
    have h2 : w.ownsRow 0 3 1 (.slice (some ⟨b, 0, none⟩) (F.length + 1) k) (F.length + 1) (rowF F ++ rowF [i]) := by
      have e1 : rowF (F ++ [i]) = rowF F ++ rowF [i] := by simp [rowF]
      rw [e1] at h1
      simpa using h1
    exact owns_cut h2 (by simp [rowF]) (by omega)
  | fresh hF hl =>
    refine (take_fresh w p cv fv A c h hA hF hl).mono ?_
    rintro e w' ⟨cv', rfl, h1, h2, h3⟩
    exact ⟨cv', fv, _, ⟨0, A.first, false⟩, rfl, h1, h2, h3, fun k hk => hk, by simp, rfl, rfl, by simp [cnt], by simp⟩

theorem ArW.setL {w : World} {p : Nat} {fv : Value} {A : Ar} {c i b n k : Nat} {s s' : Spot} (h : ArW w p (.slice (some ⟨b, 0, none⟩) n k) fv A c) (hn : A.L.length = n) (hs : A.L[i]? = some s) (j : Nat) (v : Value) (hj : j < 3) (hv : s.cellsE.set j v = s'.cellsE) :
    ArW (w.setCell ⟨b, i * 3 + j, none⟩ v) p (.slice (some ⟨b, 0, none⟩) n k) fv { A with L := A.L.set i s' } c := by
  have hbp : b ≠ p := fun e => h.d1 (by rw [e]; rfl)
  refine h.newc (A.L.set i s') ((Fr.refl _ _).setCell _ _ (fun _ => .inr rfl)) (by rw [Below.heap_setCell _ _ _ _ (Ne.symm hbp)]; exact h.hp) ?_ (fun k hk => .inl hk)
  have h1 := h.hc
  rw [hn] at h1
  have := (h1.stored (i * 3 + j) v).1
  rw [rowE_set _ _ _ _ _ _ hs hj hv] at this
  rw [List.length_set, hn]
  exact this
theorem ArW.setc {w : World} {p : Nat} {cv fv : Value} {A : Ar} {c : Nat} (h : ArW w p cv fv A c) (c' : Nat) : ArW (w.setCell ⟨p, 4, none⟩ (.int .i64 c')) p cv fv A c' := by
  refine h.newc A.L ((Fr.refl _ _).setCell _ _ (fun _ => .inl rfl)) (by rw [heap_setCell_same _ _ _ _ _ _ h.hp]; rfl) ?_ (fun k hk => .inl hk)
  exact ownsRow_setCell_other h.hc h.d1 _

/-- An arena of numbers at a pointer, in a footprint. -/
def InS (S : Nat → Prop) (w : World) (p : Nat) (A : Ar) : Prop :=
  ∃ cv fv, ArW w p cv fv A (cnt A.L) ∧ Ok A ∧ S p ∧ (∀ k, cv.ownBlock = some k → S k) ∧ (∀ k, fv.ownBlock = some k → S k) ∧ ∀ k, S k → k < w.heap.size
def ext (S : Nat → Prop) (w w' : World) : Nat → Prop := fun k => S k ∨ (w.heap.size ≤ k ∧ k < w'.heap.size)
theorem InS.lt {S : Nat → Prop} {w : World} {p : Nat} {A : Ar} (h : InS S w p A) : ∀ k, S k → k < w.heap.size := by
  obtain ⟨_, _, _, _, _, _, _, h⟩ := h; exact h
theorem InS.ok {S : Nat → Prop} {w : World} {p : Nat} {A : Ar} (h : InS S w p A) : Ok A := by
  obtain ⟨_, _, _, h, _⟩ := h; exact h
theorem InS.fr {S fp : Nat → Prop} {w w' : World} {p : Nat} {A : Ar} (h : InS S w p A) (hf : Fr fp w w') (hd : ∀ k, S k → ¬ fp k) : InS S w' p A := by
  obtain ⟨cv, fv, h1, h2, h3, h4, h5, h6⟩ := h
  exact ⟨cv, fv, h1.fr hf (hd _ h3) (fun k hk => hd k (h4 k hk)) (fun k hk => hd k (h5 k hk)), h2, h3, h4, h5, fun k hk => Nat.lt_of_lt_of_le (h6 k hk) hf.size⟩
theorem InS.wider {S : Nat → Prop} {w w' : World} {p : Nat} {A : Ar} (h : InS S w' p A) : InS (ext S w w') w' p A := by
  obtain ⟨cv, fv, h1, h2, h3, h4, h5, h6⟩ := h
  exact ⟨cv, fv, h1, h2, .inl h3, fun k hk => .inl (h4 k hk), fun k hk => .inl (h5 k hk), fun k hk => by rcases hk with hk | hk; exact h6 k hk; exact hk.2⟩
theorem Put.cnt {A A' : Ar} {x : Int} {i g : Nat} (h : Ok A) (hp : Put A x i g A') : cnt A'.L = cnt A.L + 1 := by
  cases hp with
  | again F i s hF hs =>
    obtain ⟨s', hs', ht⟩ := h.fr i (by rw [hF]; simp)
    rw [hs] at hs'; cases hs'
    have := cnt_set A.L i s ⟨x, s.g, true⟩ hs
    simp [ht] at this
    simpa using this
  | fresh hF hl => simp [cnt_append]; rfl

def PutPost (S : Nat → Prop) (w : World) (p : Nat) (A' : Ar) (i g : Nat) (e : Ending) (w' : World) : Prop :=
  e = .returned (.tuple #[.int .u64 (hand i g), .int .i64 0]) ∧ InS (ext S w w') w' p A' ∧ Fr S w w'
set_option maxHeartbeats 400000 in
theorem Put_some (S : Nat → Prop) (w : World) (p : Nat) (A A' : Ar) (i g : Nat) (x : Int) (h : InS S w p A) (hp : Put A x i g A') :
    Calls Try.prog 48 #[.pointer (some ⟨p, 0, none⟩), encE x] w (PutPost S w p A' i g) := by
  obtain ⟨cv, fv, h1, h2, h3, h4, h5, h6⟩ := h
  have ht := take_some w p cv fv A A' (cnt A.L) i g x h1 h2 hp
  have hl := h2.len
  have hm := h2.m2
  have hcl := cnt_le A.L
  have hlen' := (hp.ok h2).len
  have hm' := (hp.ok h2).m2
  have hcnt := hid (hp.cnt h2)
  have hok' := hid (hp.ok h2)
  have hgen' := (hp.ok h2).gen
  clear h1 hp
  go_enter Try.func48, Try.ntmps48
  go_wp2_with fail
  refine ht.mono ?_
  rintro e w1 ⟨cv1, fv1, L1, s1, rfl, a1, a2, a3, a4, a5, rfl, a6, a7, a8⟩
  have hi : i < L1.length := (List.getElem?_eq_some_iff.1 a5).1
  obtain ⟨b, k, hcv⟩ := a1.form a5
  subst hcv
  have hLl : L1.length ≤ 65536 := by rw [a8] at hlen'; simp at hlen'; omega
  have hg := hgen' i ⟨x, s1.g, true⟩ (by rw [a8]; simp [hi])
  have hbp : b ≠ p := fun e => a1.d1 (by rw [e]; rfl)
  have hpb : p ≠ b := Ne.symm hbp
  have c2 := a1.c2
  have c4 := a1.c4
  have z4 := a1.fz 4
  have g0 := a1.at a5 rfl 0 (by omega)
  have g1 := a1.at a5 rfl 1 (by omega)
  have g2 := a1.at a5 rfl 2 (by omega)
  simp only [Spot.cellsE, List.getElem?_cons_succ, List.getElem?_cons_zero] at g0 g1 g2 c2
  rw [Nat.add_zero] at g0
  have zb : ∀ o, w1.frozen? ⟨b, o, none⟩ = false := fun o => by
    rcases a1.hc.2 with ⟨e, _⟩ | ⟨b', k', cur, e, _, hb, _⟩
    · cases e
    · cases e; exact frozen_of_row w1 b o cur 140 hb
  have z0 := zb (i * 3)
  have z2 := zb (i * 3 + 2)
  have hgl : s1.g ≤ 4294967295 := hg.2
  have hj := hid (join_any i s1.g)
  have H1 := hid a1
  have H2 := hid a2
  have H3 := hid a3
  have H4 := hid a4
  have H5 := hid a5
  have H6 := hid a6
  have H7 := hid a7
  have H8 := hid a8
  have HL := hid hlen'
  clear a1 a2 a3 a4 a5 a6 a7 a8 zb ht hgen' hlen' hg h2
  generalize hs1 : s1.g = sg at *
  have HS1 := hid hs1
  clear hs1
  generalize cnt A.L = c at *
  have HI := hid hi
  generalize L1.length = n at c2 hi hLl
  go_wp2_with (refine (hj.out _ (by omega) (by omega) (by omega) (by omega)).mono ?_; rintro e w' ⟨rfl, rfl⟩)
  go_ret2
  have hs1 : s1 = ⟨s1.x, sg, false⟩ := by rw [← HS1.out, ← H6.out]
  have hs := H5.out
  rw [hs1] at hs
  have k1 := H1.out.setL (n := L1.length) (s' := ⟨x, sg, false⟩) rfl hs 0 (encE x) (by omega) rfl
  have k2 := k1.setL (n := L1.length) (s := ⟨x, sg, false⟩) (s' := ⟨x, sg, true⟩) (by simp) (List.getElem?_set_self HI.out) 2 (.bool true) (by omega) rfl
  have k3 := k2.setc (c + 1)
  simp only [List.set_set] at k3
  have hfr : Fr S w (((w1.setCell ⟨b, i * 3 + 0, none⟩ (encE x)).setCell ⟨b, i * 3 + 2, none⟩ (.bool true)).setCell ⟨p, 4, none⟩ (.int .i64 ((c + 1 : Nat) : Int))) := by
    have hb : b < w.heap.size → S b := fun hlt => by
      rcases H3.out b rfl with e | e
      · exact h4 b e
      · omega
    have hw1 : Fr S w w1 := H2.out.mono (fun k e _ => by
      rcases e with rfl | e
      · exact h3
      · exact h4 k e)
    exact ((hw1.setCell _ _ hb).setCell _ _ hb).setCell _ _ (fun _ => h3)
  refine ⟨rfl, ⟨.slice (some ⟨b, 0, none⟩) L1.length k, fv1, ?_, hok'.out, .inl h3, ?_, ?_, ?_⟩, hfr⟩
  · rw [hcnt.out, H8.out]; exact k3
  · intro k hk
    rcases H3.out k hk with e | e
    · exact .inl (h4 k e)
    · exact .inr ⟨e, by have := (k3.hc.lt k hk).2; exact this⟩
  · intro k hk
    exact .inl (h5 k (H4.out k hk))
  · intro k hk
    rcases hk with hk | hk
    · exact Nat.lt_of_lt_of_le (h6 k hk) hfr.size
    · exact hk.2
theorem Put_full (S : Nat → Prop) (w : World) (p : Nat) (A : Ar) (x : Int) (h : InS S w p A) (hF : Full A) :
    Calls Try.prog 48 #[.pointer (some ⟨p, 0, none⟩), encE x] w fun e w' => e = .returned (.tuple #[.int .u64 0, .int .i64 3]) ∧ Fr (fun _ => False) w w' := by
  obtain ⟨cv, fv, h1, h2, h3, h4, h5, h6⟩ := h
  have ht := take_none w p cv fv A _ h1 h2 hF
  go_enter Try.func48, Try.ntmps48
  go_wp2_with (refine ht.mono ?_; rintro e w1 ⟨rfl, hfr⟩)
  go_ret2
  exact ⟨rfl, hfr⟩
theorem Put_nil (w : World) (x : Int) : Calls Try.prog 48 #[.pointer none, encE x] w fun e w' => e = .returned (.tuple #[.int .u64 0, .int .i64 3]) ∧ w = w' := by
  go_enter Try.func48, Try.ntmps48
  go_wp2
  go_ret2
  exact ⟨rfl, rfl⟩
theorem Get_some (S : Nat → Prop) (w : World) (p : Nat) (A : Ar) (i : Nat) (s : Spot) (hd : Int) (h : InS S w p A) (hf : Found A hd i s) :
    Calls Try.prog 65 #[.pointer (some ⟨p, 0, none⟩), .int .u64 hd] w fun e w' => e = .returned (.tuple #[encE s.x, .int .i64 0]) ∧ w = w' := by
  obtain ⟨cv, fv, h1, h2, h3, h4, h5, h6⟩ := h
  obtain ⟨f1, f2, f3⟩ := hf
  obtain ⟨b, k, rfl⟩ := h1.form f1
  have hff := find_yes w p fv A _ i b k s h1 f1 f2 (Nat.le_trans h2.len h2.m2) (h2.gen i s f1).2
  have g0 := h1.at f1 rfl 0 (by omega)
  simp only [Spot.cellsE, List.getElem?_cons_zero] at g0
  rw [Nat.add_zero] at g0
  rw [← f3] at hff
  clear f3
  go_enter Try.func65, Try.ntmps65
  go_wp2_with (refine hff.mono ?_; rintro e w1 ⟨rfl, rfl⟩)
  go_ret2
  exact ⟨rfl, rfl⟩
theorem Get_stale (S : Nat → Prop) (w : World) (p : Nat) (A : Ar) (hd : Int) (h : InS S w p A) (hs : Stale A hd) (h0 : 0 ≤ hd) (hm : hd ≤ 18446744073709551615) :
    Calls Try.prog 65 #[.pointer (some ⟨p, 0, none⟩), .int .u64 hd] w fun e w' => e = .returned (.tuple #[.pointer none, .int .i64 2]) ∧ w = w' := by
  obtain ⟨cv, fv, h1, h2, h3, h4, h5, h6⟩ := h
  have hff := find_no w p cv fv A _ hd h1 hs h2 h0 hm
  go_enter Try.func65, Try.ntmps65
  go_wp2_with (refine hff.mono ?_; rintro e w1 ⟨rfl, rfl⟩)
  go_ret2
  exact ⟨rfl, rfl⟩
theorem Get_nil (w : World) (hd : Int) (h0 : 0 ≤ hd) (hm : hd ≤ 18446744073709551615) : Calls Try.prog 65 #[.pointer none, .int .u64 hd] w fun e w' => e = .returned (.tuple #[.pointer none, .int .i64 2]) ∧ w = w' := by
  have hff := find_nil hd w h0 hm
  go_enter Try.func65, Try.ntmps65
  go_wp2_with (refine hff.mono ?_; rintro e w1 ⟨rfl, rfl⟩)
  go_ret2
  exact ⟨rfl, rfl⟩
theorem Drop_stale (S : Nat → Prop) (w : World) (p : Nat) (A : Ar) (hd : Int) (h : InS S w p A) (hs : Stale A hd) (h0 : 0 ≤ hd) (hm : hd ≤ 18446744073709551615) :
    Calls Try.prog 75 #[.pointer (some ⟨p, 0, none⟩), .int .u64 hd] w fun e w' => e = .returned (.tuple #[.pointer none, .int .i64 2]) ∧ w = w' := by
  obtain ⟨cv, fv, h1, h2, h3, h4, h5, h6⟩ := h
  have hff := find_no w p cv fv A _ hd h1 hs h2 h0 hm
  go_enter Try.func75, Try.ntmps75
  go_wp2_with (refine hff.mono ?_; rintro e w1 ⟨rfl, rfl⟩)
  go_ret2
  exact ⟨rfl, rfl⟩
theorem Drop_nil (w : World) (hd : Int) (h0 : 0 ≤ hd) (hm : hd ≤ 18446744073709551615) : Calls Try.prog 75 #[.pointer none, .int .u64 hd] w fun e w' => e = .returned (.tuple #[.pointer none, .int .i64 2]) ∧ w = w' := by
  have hff := find_nil hd w h0 hm
  go_enter Try.func75, Try.ntmps75
  go_wp2_with (refine hff.mono ?_; rintro e w1 ⟨rfl, rfl⟩)
  go_ret2
  exact ⟨rfl, rfl⟩
theorem drop_cnt {A : Ar} {i : Nat} {s : Spot} (hs : A.L[i]? = some s) (ht : s.t = true) : cnt (dropAt A i s).L + 1 = cnt A.L := by
  unfold dropAt
  have := fun g => cnt_set A.L i s ⟨0, g, false⟩ hs
  split <;> simpa [ht] using this _
theorem Drop_worn (S : Nat → Prop) (w : World) (p : Nat) (A : Ar) (i : Nat) (s : Spot) (hd : Int) (h : InS S w p A) (hf : Found A hd i s) (hw : ¬ s.g < 4294967295) :
    Calls Try.prog 75 #[.pointer (some ⟨p, 0, none⟩), .int .u64 hd] w fun e w' => e = .returned (.tuple #[encE s.x, .int .i64 0]) ∧ InS S w' p (dropAt A i s) ∧ Fr S w w' := by
  obtain ⟨cv, fv, h1, h2, h3, h4, h5, h6⟩ := h
  obtain ⟨f1, f2, f3⟩ := hf
  obtain ⟨b, k, rfl⟩ := h1.form f1
  have hg := h2.gen i s f1
  have hff := find_yes w p fv A _ i b k s h1 f1 f2 (Nat.le_trans h2.len h2.m2) hg.2
  have hlt : i < A.L.length := (List.getElem?_eq_some_iff.1 f1).1
  have hl := Nat.le_trans h2.len h2.m2
  have ho := drop_ok h2 f1 f2
  have hcn := drop_cnt f1 f2
  have hcl := cnt_le A.L
  obtain ⟨c, hc⟩ : ∃ c, cnt (dropAt A i s).L = c := ⟨_, rfl⟩
  rw [hc] at hcn
  rw [← hcn] at h1 hcl
  have k1 := h1.setL (s' := ⟨0, s.g, s.t⟩) rfl f1 0 (.pointer none) (by omega) rfl
  have k2 := k1.setL (s := ⟨0, s.g, s.t⟩) (s' := ⟨0, s.g, false⟩) (by simp) (List.getElem?_set_self hlt) 2 (.bool false) (by omega) rfl
  have k3 := k2.setc c
  simp only [List.set_set] at k3
  have hfr : Fr S w (((w.setCell ⟨b, i * 3 + 0, none⟩ (.pointer none)).setCell ⟨b, i * 3 + 2, none⟩ (.bool false)).setCell ⟨p, 4, none⟩ (.int .i64 c)) :=
    (((Fr.refl _ _).setCell _ _ (fun _ => h4 b rfl)).setCell _ _ (fun _ => h4 b rfl)).setCell _ _ (fun _ => h3)
  have g0 := h1.at f1 rfl 0 (by omega)
  have g1 := h1.at f1 rfl 1 (by omega)
  have g2 := h1.at f1 rfl 2 (by omega)
  have c4 := h1.c4
  have z4 := h1.fz 4
  simp only [Spot.cellsE, List.getElem?_cons_succ, List.getElem?_cons_zero] at g0 g1 g2
  rw [Nat.add_zero] at g0
  have z0 := h1.hc.frozenAt (i * 3)
  have z2 := h1.hc.frozenAt (i * 3 + 2)
  have hbp : b ≠ p := fun e => h1.d1 (by rw [e]; rfl)
  have hpb : p ≠ b := Ne.symm hbp
  have hdr : dropAt A i s = { A with L := A.L.set i ⟨0, s.g, false⟩ } := by unfold dropAt; rw [if_neg hw]
  have hsg : decide ((s.g : Int) < 4294967295) = false := by simp; omega
  rw [← f3] at hff
  have HK := hid k3
  have HO := hid ho
  have HC := hid hc
  have HD := hid hdr
  have HR := hid hfr
  clear f3 k1 k2 k3 ho hc hdr hfr h1 hcn f1 f2
  go_enter Try.func75, Try.ntmps75
  go_wp2_with (refine hff.mono ?_; rintro e w1 ⟨rfl, rfl⟩)
  go_ret2
  exact ⟨rfl, ⟨_, fv, by rw [HC.out, HD.out]; exact HK.out, HO.out, h3, h4, h5, fun k hk => Nat.lt_of_lt_of_le (h6 k hk) HR.out.size⟩, HR.out⟩
end Go.Proofs.Ytmkajdfajcodjaa

namespace Go.Proofs.Ytmkajdfajcodjaa
open Go.ChangeShapes Go.WideShapes Go.ChangeAt Go.RowKit

set_option maxHeartbeats 1000000 in
set_option maxRecDepth 100000 in
theorem Drop_again (S : Nat → Prop) (w : World) (p : Nat) (A : Ar) (i : Nat) (s : Spot) (hd : Int) (h : InS S w p A) (hf : Found A hd i s) (hw : s.g < 4294967295) :
    Calls Try.prog 75 #[.pointer (some ⟨p, 0, none⟩), .int .u64 hd] w fun e w' => e = .returned (.tuple #[encE s.x, .int .i64 0]) ∧ InS (ext S w w') w' p (dropAt A i s) ∧ Fr S w w' := by
  obtain ⟨cv, fv, h1, h2, h3, h4, h5, h6⟩ := h
  obtain ⟨f1, f2, f3⟩ := hf
  obtain ⟨b, k, rfl⟩ := h1.form f1
  have hg := h2.gen i s f1
  have hff := find_yes w p fv A _ i b k s h1 f1 f2 (Nat.le_trans h2.len h2.m2) hg.2
  have hlt : i < A.L.length := (List.getElem?_eq_some_iff.1 f1).1
  have hl := Nat.le_trans h2.len h2.m2
  have hfl := h2.fl
  have ho := drop_ok h2 f1 f2
  have hcn := drop_cnt f1 f2
  have hcl := cnt_le A.L
  obtain ⟨c, hc⟩ : ∃ c, cnt (dropAt A i s).L = c := ⟨_, rfl⟩
  rw [hc] at hcn
  rw [← hcn] at h1 hcl hfl
  have k1 := h1.setL (s' := ⟨0, s.g, s.t⟩) rfl f1 0 (.pointer none) (by omega) rfl
  have k2 := k1.setL (s := ⟨0, s.g, s.t⟩) (s' := ⟨0, s.g, false⟩) (by simp) (List.getElem?_set_self hlt) 2 (.bool false) (by omega) rfl
  have k3 := k2.setc c
  simp only [List.set_set] at k3
  have k4 := k3.setL (s := ⟨0, s.g, false⟩) (s' := ⟨0, s.g + 1, false⟩) (by simp) (List.getElem?_set_self hlt) 1 (.int .u32 ((s.g : Int) + 1)) (by omega) (by simp [Spot.cellsE])
  simp only [List.set_set] at k4
  have hfr : Fr S w ((((w.setCell ⟨b, i * 3 + 0, none⟩ (.pointer none)).setCell ⟨b, i * 3 + 2, none⟩ (.bool false)).setCell ⟨p, 4, none⟩ (.int .i64 c)).setCell ⟨b, i * 3 + 1, none⟩ (.int .u32 ((s.g : Int) + 1))) :=
    ((((Fr.refl _ _).setCell _ _ (fun _ => h4 b rfl)).setCell _ _ (fun _ => h4 b rfl)).setCell _ _ (fun _ => h3)).setCell _ _ (fun _ => h4 b rfl)
  have g0 := h1.at f1 rfl 0 (by omega)
  have g1 := h1.at f1 rfl 1 (by omega)
  have g2 := h1.at f1 rfl 2 (by omega)
  have c3 := h1.c3
  have c4 := h1.c4
  have z3 := h1.fz 3
  have z4 := h1.fz 4
  simp only [Spot.cellsE, List.getElem?_cons_succ, List.getElem?_cons_zero] at g0 g1 g2
  rw [Nat.add_zero] at g0
  have z0 := h1.hc.frozenAt (i * 3)
  have z1 := h1.hc.frozenAt (i * 3 + 1)
  have z2 := h1.hc.frozenAt (i * 3 + 2)
  have hbp : b ≠ p := fun e => h1.d1 (by rw [e]; rfl)
  have hpb : p ≠ b := Ne.symm hbp
  have hdr : dropAt A i s = { A with L := A.L.set i ⟨0, s.g + 1, false⟩, F := A.F ++ [i] } := by unfold dropAt; rw [if_pos hw]
  have hsg : decide ((s.g : Int) < 4294967295) = true := by simp; omega
  have hsp := fun W => Split_any (hand i s.g) W (by unfold hand; omega) (by unfold hand; omega)
  have e1 : hand i s.g % 4294967296 - 1 = i := by unfold hand; omega
  have e2 : hand i s.g / 4294967296 = s.g := by unfold hand; omega
  rw [e1, e2, ← f3] at hsp
  rw [← f3] at hff
  obtain ⟨i0, hi, hz0, hz1, hz2⟩ := info_parts infoNE
  have hi' := hid hi
  have hz0' := hid hz0
  have hz1' := hid hz1
  have hz2' := hid hz2
  have hplt := h1.lt
  have hF9 : A.F.length ≤ 65536 := by omega
  have hm9 : A.F.length + 1 ≤ maxLen := by unfold maxLen; omega
  have K4 := hid k4
  have HO := hid ho
  have HC := hid hc
  have HD := hid hdr
  have HR := hid hfr
  have HSP := hid hsp
  clear hi hz0 hz1 hz2 f3 k1 k2 k3 k4 ho hc hdr hfr h1 hcn f1 f2 e1 e2 hsp
  have hwr : IntKind.u32.wrap ((s.g : Int) + 1) = (s.g : Int) + 1 := IntWalk.u32_in _ (by omega)
  have HW := hid hw
  have H4 := hid h4
  have H5 := hid h5
  have H6 := hid h6
  have HFL := hid hfl
  have HH2 := hid h2
  clear hw h4 h5 h6 hfl h2 hg hlt
  generalize s.g = sg at *
  generalize s.x = sx at *
  go_enter Try.func75, Try.ntmps75
  go_wp2_with fail
  refine hff.mono ?_
  rintro e w1 ⟨rfl, rfl⟩
  go_upto_region 11 with (refine (HSP.out _).mono ?_; rintro e w1 ⟨rfl, rfl⟩)
  obtain ⟨w4, hw4⟩ : ∃ w4, w4 = (((w.setCell ⟨b, i * 3, none⟩ (.pointer none)).setCell ⟨b, i * 3 + 2, none⟩ (.bool false)).setCell ⟨p, 4, none⟩ (.int .i64 c)).setCell ⟨b, i * 3 + 1, none⟩ (.int .u32 ((sg : Int) + 1)) := ⟨_, rfl⟩
  rw [← hw4]
  have k4 : ArW w4 p (.slice (some ⟨b, 0, none⟩) A.L.length k) fv { A with L := A.L.set i ⟨0, sg + 1, false⟩ } c := by rw [hw4]; exact K4.out
  have hfr4 : Fr S w w4 := by rw [hw4]; exact HR.out
  have HSZ := hid (show w4.heap.size = w.heap.size by rw [hw4]; simp)
  have C3 := k4.c3
  have Z3 := k4.fz 3
  have P4 := k4.lt
  have D2 := k4.d2
  have K5 := hid k4
  have R4 := hid hfr4
  clear hw4 k4 hfr4 K4 HR g0 g1 g2 c3 c4 z0 z1 z2 z3 z4 hwr hff hsg HSP
  go_wp2_with (at_builtin; go_loud (refine wpList_append_lies _ (o := ⟨some 59, _, _, _, _, _⟩) rfl (.tmp 56) (.tmp 58) 57 rfl 0 3 i0 (.int .i64 0) 1 8 Try.underlying57 hi'.out hz0'.out hz1'.out hz2'.out rfl (by decide) fv A.F.length (rowF A.F) rfl (K5.out.hf.alloc _) ⟨w4.heap.size, 0, none⟩ 1 1 [.int .i64 i] rfl rfl (one_news _ _ _ _ rfl) (by simp [Value.oneCell']) (by decide) hm9 (by omega) (Nat.zero_le _) (w4.heap.size + 1) (by simp) ?_; intro g5 k5 w5 hown5 hgrow5 hat5 hlt5; have hb5 : w5.heap[p]? = w4.heap[p]? := (by rw [hgrow5.block p (by simp; omega) (fun e => D2 e.symm)]; exact Below.heap_alloc _ _ _ P4); have c35 : w5.cell? ⟨p, 3, none⟩ = some fv := (World.cell?_of_block hb5).trans C3; have z35 : w5.frozen? ⟨p, 3, none⟩ = false := (World.frozen?_of_block hb5).trans Z3; have HO5 := hid hown5; have HG5 := hid hgrow5; have HA5 := hid hat5; have HB5 := hid hb5; clear hown5 hgrow5 hat5 hb5))
  go_ret2
  have hsz := HSZ.out
  have hown : ∀ j, (Value.slice (some ⟨g5, 0, none⟩) (A.F.length + 1) k5).ownBlock = some j → fv.ownBlock = some j ∨ w4.heap.size ≤ j := fun j hj => by
    simp [Value.ownBlock] at hj
    subst hj
    rcases HA5.out with e | e
    · exact .inl e
    · exact .inr (by omega)
  have hg5p : g5 ≠ p := fun e => by
    rcases hown p (by simp [Value.ownBlock, e]) with e | e
    · exact D2 e
    · omega
  have hfr45 : Fr (fun j => j = p ∨ fv.ownBlock = some j) w4 (w5.setCell ⟨p, 3, none⟩ (.slice (some ⟨g5, 0, none⟩) (A.F.length + 1) k5)) :=
    (((Fr.refl _ _).alloc _).grown HG5.out (fun j hj _ => .inr hj)).setCell _ _ (fun _ => .inl rfl)
  have hp5 := K5.out.hp
  rw [← HB5.out] at hp5
  have hnew := K5.out.newf (A.F ++ [i]) hfr45 (c' := c) (fv' := .slice (some ⟨g5, 0, none⟩) (A.F.length + 1) k5) (by rw [heap_setCell_same _ _ _ _ _ _ hp5]; rfl)
    (by
      have e1 : rowF (A.F ++ [i]) = rowF A.F ++ [.int .i64 i] := by simp [rowF]
      rw [List.length_append, e1]
      exact ownsRow_setCell_other HO5.out (by simp [Value.ownBlock]; exact hg5p) _) hown
  have hfr : Fr S w (w5.setCell ⟨p, 3, none⟩ (.slice (some ⟨g5, 0, none⟩) (A.F.length + 1) k5)) := R4.out.trans hfr45 (fun j hj _ => by
    rcases hj with rfl | hj
    · exact h3
    · exact H5.out j hj)
  refine ⟨rfl, ⟨_, _, by rw [HC.out, HD.out]; exact hnew, HO.out, .inl h3, fun j hj => .inl (H4.out j hj), fun j hj => ?_, fun j hj => ?_⟩, hfr⟩
  · rcases hown j hj with e | e
    · exact .inl (H5.out j e)
    · exact .inr ⟨by omega, (hnew.hf.lt j hj).2⟩
  · rcases hj with hj | hj
    · exact Nat.lt_of_lt_of_le (H6.out j hj) hfr.size
    · exact hj.2
end Go.Proofs.Ytmkajdfajcodjaa
