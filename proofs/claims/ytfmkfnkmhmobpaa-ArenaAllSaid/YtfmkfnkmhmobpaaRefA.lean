/-
  The plain twin of an arena in memory; the contracts of its Handle, New, At.
-/
import Derived.Test.YtfmkfnkmhmobpaaArP
namespace Go.Proofs.Ytfmkfnkmhmobpaa
open Go.ChangeShapes Go.WideShapes Go.ChangeAt Go.RowKit

/-- A place of the plain twin. -/
structure RSpot where
  x : Int
  g : Nat
  s : Int
def RSpot.cells (r : RSpot) : List Value := [.int .i64 r.x, .int .u32 r.g, .int .i64 r.s]
def rowR (R : List RSpot) : List Value := R.flatMap RSpot.cells
def toSpot (r : RSpot) : Spot := ⟨r.x, r.g, decide (r.s = 1)⟩
theorem rowR_len (L : List RSpot) : (rowR L).length = L.length * 3 := by
  induction L with
  | nil => rfl
  | cons s L ih => simp only [rowR, List.flatMap_cons, List.length_append, List.length_cons] at ih ⊢; rw [ih]; simp only [RSpot.cells, List.length_cons, List.length_nil]; omega
theorem rowR_append (L M : List RSpot) : rowR (L ++ M) = rowR L ++ rowR M := by simp [rowR]
theorem rowR_at (L : List RSpot) (i j : Nat) (s : RSpot) (h : L[i]? = some s) (hj : j < 3) : (rowR L)[i * 3 + j]? = s.cells[j]? := by
  induction L generalizing i with
  | nil => simp at h
  | cons a L ih =>
    have e : rowR (a :: L) = a.cells ++ rowR L := by simp [rowR]
    rw [e]
    cases i with
    | zero =>
      simp at h; subst h
      rw [List.getElem?_append_left (by simp [RSpot.cells]; omega)]; simp
    | succ i =>
      simp at h
      rw [List.getElem?_append_right (by simp [RSpot.cells]; omega)]
      have : (i + 1) * 3 + j - a.cells.length = i * 3 + j := by simp [RSpot.cells]; omega
      rw [this]; exact ih i h
theorem rowR_set (L : List RSpot) (i j : Nat) (s s' : RSpot) (v : Value) (h : L[i]? = some s) (hj : j < 3) (hs : s.cells.set j v = s'.cells) : (rowR L).set (i * 3 + j) v = rowR (L.set i s') := by
  induction L generalizing i with
  | nil => simp at h
  | cons a L ih =>
    have e : rowR (a :: L) = a.cells ++ rowR L := by simp [rowR]
    rw [e]
    cases i with
    | zero =>
      simp at h; subst h
      rw [List.set_append_left _ _ (by simp [RSpot.cells]; omega)]
      simp only [List.set_cons_zero]
      have e2 : rowR (s' :: L) = s'.cells ++ rowR L := by simp [rowR]
      rw [e2]; congr 1; simpa using hs
    | succ i =>
      simp at h
      rw [List.set_append_right _ _ (by simp [RSpot.cells]; omega)]
      have : (i + 1) * 3 + j - a.cells.length = i * 3 + j := by simp [RSpot.cells]; omega
      rw [this, ih i h]
      simp [rowR]

structure RefW (w : World) (p : Nat) (cv fv : Value) (A : Ar) (R : List RSpot) : Prop where
  hp : w.heap[p]? = some (.cells #[.int .i64 A.most, .int .u32 A.first, cv, fv] 54 (0, 0))
  hc : w.ownsRow 0 51 3 cv R.length (rowR R)
  hf : w.ownsRow 0 3 1 fv A.F.length (rowF A.F)
  hR : A.L = R.map toSpot
  d1 : cv.ownBlock ≠ some p
  d2 : fv.ownBlock ≠ some p
  d3 : ∀ k, cv.ownBlock = some k → fv.ownBlock ≠ some k
section
variable {w : World} {p : Nat} {cv fv : Value} {A : Ar} {R : List RSpot}
theorem RefW.c0 (h : RefW w p cv fv A R) : w.cell? ⟨p, 0, none⟩ = some (.int .i64 A.most) := by rw [cell_of_row w p 0 _ 54 _ h.hp]; rfl
theorem RefW.c1 (h : RefW w p cv fv A R) : w.cell? ⟨p, 1, none⟩ = some (.int .u32 A.first) := by rw [cell_of_row w p 1 _ 54 _ h.hp]; rfl
theorem RefW.c2 (h : RefW w p cv fv A R) : w.cell? ⟨p, 2, none⟩ = some cv := by rw [cell_of_row w p 2 _ 54 _ h.hp]; rfl
theorem RefW.c3 (h : RefW w p cv fv A R) : w.cell? ⟨p, 3, none⟩ = some fv := by rw [cell_of_row w p 3 _ 54 _ h.hp]; rfl
theorem RefW.fz (h : RefW w p cv fv A R) (k : Nat) : w.frozen? ⟨p, k, none⟩ = false := frozen_of_row w p k _ 54 h.hp
theorem RefW.lt (h : RefW w p cv fv A R) : p < w.heap.size := (Array.getElem?_eq_some_iff.1 h.hp).1
theorem RefW.len (h : RefW w p cv fv A R) : A.L.length = R.length := by rw [h.hR]; simp
theorem RefW.shape (h : RefW w p cv fv A R) : ∃ a k, cv = .slice a R.length k := by
  rcases h.hc.2 with ⟨h1, h2⟩ | ⟨g, cap, _, h1, _⟩
  · exact ⟨none, 0, by rw [h1, h2]⟩
  · exact ⟨_, cap, h1⟩
theorem RefW.shapeF (h : RefW w p cv fv A R) : ∃ a k, fv = .slice a A.F.length k := by
  rcases h.hf.2 with ⟨h1, h2⟩ | ⟨g, cap, _, h1, _⟩
  · exact ⟨none, 0, by rw [h1, h2]⟩
  · exact ⟨_, cap, h1⟩
theorem RefW.form (h : RefW w p cv fv A R) {i : Nat} {s : RSpot} (hs : R[i]? = some s) : ∃ g k, cv = .slice (some ⟨g, 0, none⟩) R.length k := by
  have hlt : i < R.length := (List.getElem?_eq_some_iff.1 hs).1
  obtain ⟨g, k, h1, _⟩ := h.hc.form (by omega)
  exact ⟨g, k, h1⟩
theorem RefW.at (h : RefW w p cv fv A R) {i g k : Nat} {s : RSpot} (hs : R[i]? = some s) (hcv : cv = .slice (some ⟨g, 0, none⟩) R.length k) (j : Nat) (hj : j < 3) : w.cell? ⟨g, i * 3 + j, none⟩ = s.cells[j]? := by
  have hlt : i < R.length := (List.getElem?_eq_some_iff.1 hs).1
  have hc := h.hc
  subst hcv
  rw [hc.cellAt (i * 3 + j) (by omega), rowR_at _ _ _ _ hs hj]
theorem RefW.fr {w' : World} {fp : Nat → Prop} (h : RefW w p cv fv A R) (hf : Fr fp w w') (hp : ¬ fp p) (hc : ∀ k, cv.ownBlock = some k → ¬ fp k) (hv : ∀ k, fv.ownBlock = some k → ¬ fp k) : RefW w' p cv fv A R :=
  ⟨by rw [hf.block p h.lt hp]; exact h.hp, hf.owns h.hc hc, hf.owns h.hf hv, h.hR, h.d1, h.d2, h.d3⟩
end

theorem Handle_any (i g : Nat) (w : World) (hi : i ≤ 65536) (hg : g ≤ 4294967295) : Calls Try.prog 28 #[.int .i64 i, .int .u32 g] w fun e w' => e = .returned (.int .u64 (hand i g)) ∧ w = w' := by
  go_enter Try.func28, Try.ntmps28
  go_wp2
  go_ret
  exact ⟨ret_u64 (by unfold hand; omega), rfl⟩

def AtPost (A : Ar) (hd : Int) (w : World) (e : Ending) (w' : World) : Prop := w = w' ∧ ((∃ (i : Nat) (s : Spot), Found A hd i s ∧ e = .returned (.int .i64 i)) ∨ (Stale A hd ∧ e = .returned (.int .i64 (-1))))
set_option maxHeartbeats 400000 in
theorem At_any (w : World) (p : Nat) (cv fv : Value) (A : Ar) (R : List RSpot) (hd : Int) (h : RefW w p cv fv A R) (hA : Ok A) :
    Calls Try.prog 21 #[.pointer (some ⟨p, 0, none⟩), .int .u64 hd] w (AtPost A hd w) := by
  obtain ⟨a, k, hcv⟩ := h.shape
  have c2 := h.c2
  rw [hcv] at c2
  have HW := hid h
  have HA := hid hA
  have HCV := hid hcv
  have hl : R.length ≤ 65536 := by have := hA.len; have := hA.m2; have := h.len; omega
  clear h hA hcv
  obtain ⟨n, hn⟩ : ∃ n, n = R.length := ⟨_, rfl⟩
  rw [← hn] at c2 hl
  have HN := hid hn
  clear hn
  go_enter Try.func21, Try.ntmps21
  go_wp2
  go_loop [5] (fun i => ∃ q : Nat, q ≤ n ∧ i = .int .i64 q ∧ RowKit.Hid (∀ j s, j < q → ¬ Found A hd j s)) (fun i => n - (intOf i).toNat)
  case atStart => exact ⟨0, by omega, rfl, hid (fun j s h => by omega)⟩
  case round =>
    obtain ⟨q, hq1, rfl, hno⟩ := hrel
    by_cases hql : q < n
    · have hqR : q < R.length := by rw [← HN.out]; exact hql
      have hr : R[q]? = some R[q] := List.getElem?_eq_getElem hqR
      generalize R[q] = r at hr
      obtain ⟨g, k', hcv2⟩ := HW.out.form hr
      have g1 := HW.out.at hr hcv2 1 (by omega)
      have g2 := HW.out.at hr hcv2 2 (by omega)
      rw [HCV.out, ← HN.out] at hcv2
      simp only [Value.slice.injEq] at hcv2
      obtain ⟨rfl, -, rfl⟩ := hcv2
      have hs : A.L[q]? = some (toSpot r) := by rw [HW.out.hR]; simp [hr]
      have hgen := (HA.out.gen q _ hs).2
      obtain ⟨rx, rg, rs⟩ := r
      simp only [RSpot.cells, List.getElem?_cons_succ, List.getElem?_cons_zero] at g1 g2
      simp only [toSpot] at hgen
      have hgb : rg ≤ 4294967295 := hgen
      have HS := hid hs
      clear hs hr hqR hgen
      have next : ¬ Found A hd q (toSpot ⟨rx, rg, rs⟩) → RowKit.Hid (∀ j s, j < q + 1 → ¬ Found A hd j s) := fun hn => hid (fun j s hj hf => by
        by_cases e : j < q
        · exact hno.out j s e hf
        · obtain rfl : j = q := by omega
          have h1 := hf.1
          rw [HS.out] at h1; cases h1
          exact hn hf)
      have NX := hid next
      clear next
      have hh := fun W => Handle_any q rg W (by omega) hgb
      by_cases hst : rs = 1
      · subst hst
        obtain ⟨hv, hhv⟩ : ∃ hv, hv = hand q rg := ⟨_, rfl⟩
        rw [← hhv] at hh
        have HV := hid hhv
        have HH := hid hh
        clear hh hhv
        by_cases he : hv = hd
        · have hb : (hv == hd) = true := by simpa using he
          have HE := hid he
          clear he
          go_wp2_with (refine (HH.out _).mono ?_; rintro e w' ⟨rfl, rfl⟩)
          go_ret
          exact ⟨rfl, .inl ⟨q, _, ⟨HS.out, rfl, by rw [← HE.out, HV.out]; rfl⟩, rfl⟩⟩
        · have hb : (hv == hd) = false := by simpa using he
          have HE := hid he
          clear he
          go_wp2_with (refine (HH.out _).mono ?_; rintro e w' ⟨rfl, rfl⟩)
          go_round
          case rel => exact ⟨q + 1, by omega, by go_num, NX.out (fun hf => HE.out (by rw [HV.out, hf.2.2]; rfl))⟩
          case measure => simp [intOf]; omega
      · have hb : (rs == 1) = false := by simpa using hst
        have HE := hid hst
        clear hst hh
        go_wp2
        go_round
        case rel => exact ⟨q + 1, by omega, by go_num, NX.out (fun hf => HE.out (by have := hf.2.1; simpa [toSpot] using this))⟩
        case measure => simp [intOf]; omega
    · go_wp2
      go_ret
      refine ⟨rfl, .inr ⟨fun j s hf => hno.out j s ?_ hf, rfl⟩⟩
      have h1 := (List.getElem?_eq_some_iff.1 hf.1).1
      have h2 := HW.out.len
      have h3 := HN.out
      omega
end Go.Proofs.Ytfmkfnkmhmobpaa
