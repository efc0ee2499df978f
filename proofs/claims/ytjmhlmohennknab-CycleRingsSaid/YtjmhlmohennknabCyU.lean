/-
  The three sweeps plainly: each unit lessens what is left to do; what stays true, all together. It speaks of no program.
-/
import Derived.Test.YtjmhlmohennknabCyT
namespace Go.Proofs.Ytjmhlmohennknab
open Go

/-- What nodes that have not the colour will cost. -/
def un (e : Nat → List Nat) (col : Nat → Nat) (c : Nat) : Nat → Nat
  | 0 => 0
  | n + 1 => un e col c n + if col n < c then (e n).length + 1 else 0
theorem un_le (e : Nat → List Nat) (col : Nat → Nat) (c n : Nat) : un e col c n ≤ tot e n + n := by
  induction n with
  | zero => exact Nat.le_refl _
  | succ n ih => unfold un tot; split <;> omega
theorem un_upd_out {e : Nat → List Nat} {col : Nat → Nat} {c n j : Nat} (hj : n ≤ j) : un e (upd col j c) c n = un e col c n := by
  induction n with
  | zero => rfl
  | succ n ih => unfold un; rw [ih (by omega), upd_other (by omega)]
theorem un_upd {e : Nat → List Nat} {col : Nat → Nat} {c n j : Nat} (hj : j < n) (hc : col j < c) : un e (upd col j c) c n + ((e j).length + 1) = un e col c n := by
  induction n with
  | zero => omega
  | succ n ih =>
    unfold un
    by_cases h : j = n
    · subst h
      rw [un_upd_out (Nat.le_refl _), upd_same, if_neg (by omega), if_pos hc]
      omega
    · rw [upd_other (fun k => h k.symm)]
      have := ih (by omega)
      omega
/-- What those who wait will cost. -/
def wt (e : Nat → List Nat) : List Nat → Nat
  | [] => 0
  | i :: r => (e i).length + 1 + wt e r
theorem wt_app (e : Nat → List Nat) (l : List Nat) (j : Nat) : wt e (l ++ [j]) = wt e l + ((e j).length + 1) := by
  induction l with
  | nil => simp [wt]
  | cons a l ih => simp only [List.cons_append, wt, ih]; omega
def Fp (n : Nat) (e : Nat → List Nat) (c : Nat) (s : CyS) : Nat := (n - s.next) + un e s.col c n + (wt e s.q - s.edge)
section
variable {n : Nat} {e : Nat → List Nat} {S : Nat → Prop} {c : Nat} {s : CyS}
theorem Fp.paint {j : Nat} (hj : j < n) (he : s.edge ≤ wt e s.q) : Fp n e c (s.paint j c) = Fp n e c s ∧ s.edge ≤ wt e (s.paint j c).q := by
  unfold CyS.paint
  by_cases hc : s.col j < c
  · rw [if_pos hc]
    unfold Fp
    simp only
    have h1 := un_upd (e := e) hj hc
    have h2 := wt_app e s.q j
    omega
  · rw [if_neg hc]
    exact ⟨rfl, he⟩
theorem Fl.wt (h : Fl n e S c s) : s.edge ≤ wt e s.q := by
  cases hq : s.q with
  | nil => rw [h.e0 hq]; exact Nat.zero_le _
  | cons i r =>
    have := (h.ed i r hq).1
    unfold Proofs.Ytjmhlmohennknab.wt
    omega
theorem Fp.step (hn : s.next < n) : Fp n e c { s with next := s.next + 1 } + 1 = Fp n e c s := by
  unfold Fp
  simp only
  omega
theorem Fp.pop {i : Nat} {r : List Nat} (hq : s.q = i :: r) (he : s.edge = (e i).length) : Fp n e c { s with q := r, edge := 0 } + 1 = Fp n e c s := by
  unfold Fp
  simp only [hq, Proofs.Ytjmhlmohennknab.wt]
  omega
theorem Fp.edge {i : Nat} {r : List Nat} {h : Nat → Int} (hq : s.q = i :: r) (he : s.edge < (e i).length) : Fp n e c { s with edge := s.edge + 1, held := h } + 1 = Fp n e c s := by
  unfold Fp
  simp only [hq, Proofs.Ytjmhlmohennknab.wt]
  omega
end
/-- What is left to do. -/
def Phi (g : Gr) (s : CyS) : Nat :=
  if s.sw = 0 then Fp g.n g.e 2 s + (g.n + (tot g.e g.n + g.n)) + g.n else if s.sw = 1 then Fp g.n g.e 3 s + g.n else if s.sw = 2 then g.n - s.next else 0
section
variable {g : Gr} {s : CyS}
theorem look_same (i : Nat) : (s.look i).sw = s.sw ∧ (s.look i).next = s.next := by
  unfold CyS.look
  split
  · exact ⟨(paint_rest (s := s) (j := i) (c := 2)).2.1, (paint_rest (s := s) (j := i) (c := 2)).2.2.1⟩
  · split
    · exact ⟨(paint_rest (s := s) (j := i) (c := 3)).2.1, (paint_rest (s := s) (j := i) (c := 3)).2.2.1⟩
    · split <;> exact ⟨rfl, rfl⟩
theorem follow_same (e : Nat → List Nat) : (s.follow e).sw = s.sw ∧ (s.follow e).next = s.next := by
  cases hq : s.q with
  | nil => unfold CyS.follow; rw [hq]; exact ⟨rfl, rfl⟩
  | cons i r =>
    rw [follow_cons hq]
    split
    · exact ⟨rfl, rfl⟩
    · split
      · exact ⟨paint_rest.2.1, paint_rest.2.2.1⟩
      · exact ⟨paint_rest.2.1, paint_rest.2.2.1⟩
theorem unit_sw (e : Nat → List Nat) : (s.unit e).sw = s.sw := by
  unfold CyS.unit
  split
  · exact (look_same s.next).1
  · exact (follow_same e).1
/-- Out of what is true of each sweep. -/
theorem CyJ.mk0 (h : Sw0 g s) (hw : s.sw = 0) (hn : s.next ≤ g.n) : CyJ g s :=
  ⟨by omega, hn, fun _ => h, fun k => by omega, fun k => by omega, fun k => by omega, h.fl.qn, fun i hi => (h.fl.qc i hi).1, fun i r hq => (h.fl.ed i r hq).1, fun _ hj _ => h.hdb hj, by rw [h.fo]; exact Nat.zero_le _⟩
theorem CyJ.mk1 (h : Sw1 g s) (hw : s.sw = 1) (hn : s.next ≤ g.n) : CyJ g s :=
  ⟨by omega, hn, fun k => by omega, fun _ => h, fun k => by omega, fun k => by omega, h.fl.qn, fun i hi => (h.fl.qc i hi).1, fun i r hq => (h.fl.ed i r hq).1, fun j hj _ => (by have := h.hd j hj; have := into_le g.e g.reach g.n j; omega), by rw [h.fo]; exact Nat.zero_le _⟩
theorem CyJ.mk2 (h : Sw2 g s) (hw : s.sw = 2) (hn : s.next ≤ g.n) : CyJ g s :=
  ⟨by omega, hn, fun k => by omega, fun k => by omega, fun _ => h, fun k => by omega, by rw [h.q]; exact List.nodup_nil, (fun i hi => by rw [h.q] at hi; cases hi), (fun i r hq => by rw [h.q] at hq; cases hq), fun _ _ k => by omega, (by
    rw [h.fo]
    refine Nat.le_trans (List.length_filter_le _ _) ?_
    simpa using hn)⟩
/-- A unit. -/
theorem CyJ.unit (h : CyJ g s) (hg : GrOk g) (hw : s.sw < 3) (hmore : s.next < g.n ∨ s.q ≠ []) : CyJ g (s.unit g.e) ∧ Phi g (s.unit g.e) < Phi g s := by
  have hu := unit_sw (s := s) g.e
  have hcase : s.sw = 0 ∨ s.sw = 1 ∨ s.sw = 2 := by omega
  rcases hcase with hw0 | hw1 | hw2
  · have h0 := h.s0 hw0
    unfold Phi
    rw [hu, if_pos hw0, if_pos hw0]
    rw [hw0] at hu
    cases hq : s.q with
    | nil =>
      have hn : s.next < g.n := hmore.elim id (fun k => absurd hq k)
      have hun : s.unit g.e = { s.look s.next with next := s.next + 1 } := by unfold CyS.unit; rw [if_pos hq]
      rw [hun] at hu ⊢
      refine ⟨.mk0 (h0.look hw0 hq hn) hu (by show s.next + 1 ≤ g.n; omega), ?_⟩
      have h2 : Fp g.n g.e 2 (s.look s.next) = Fp g.n g.e 2 s := by
        unfold CyS.look
        split
        · exact (Fp.paint hn h0.fl.wt).1
        · rw [if_neg (by omega), if_neg (by omega)]
      have h3 := Fp.step (n := g.n) (e := g.e) (c := 2) (s := s.look s.next) (by rw [(look_same _).2]; exact hn)
      rw [(look_same _).2] at h3
      dsimp only
      omega
    | cons i r =>
      have hun : s.unit g.e = s.follow g.e := by unfold CyS.unit; rw [if_neg (by rw [hq]; simp)]
      rw [hun] at hu ⊢
      refine ⟨.mk0 (h0.follow hg hw0 hq) hu (by rw [(follow_same _).2]; exact h.nx), ?_⟩
      rw [follow_cons hq]
      have hed := (h0.fl.ed i r hq).1
      by_cases he : s.edge = (g.e i).length
      · rw [if_pos he]
        have := Fp.pop (n := g.n) (e := g.e) (c := 2) hq he
        omega
      · rw [if_neg he, if_pos hw0]
        have hlt : s.edge < (g.e i).length := by omega
        have h4 := Fp.edge (n := g.n) (e := g.e) (c := 2) (h := upd s.held ((g.e i).getD s.edge 0) (s.held ((g.e i).getD s.edge 0) - 1)) hq hlt
        have h5 := (Fp.paint (n := g.n) (e := g.e) (c := 2) (s := { s with edge := s.edge + 1, held := upd s.held ((g.e i).getD s.edge 0) (s.held ((g.e i).getD s.edge 0) - 1) }) (hg.e i _ (getD_mem hlt)) (by
          simp only [hq, wt]
          omega)).1
        omega
  · have h1 := h.s1 hw1
    unfold Phi
    rw [hu, if_neg (by omega), if_pos hw1, if_neg (by omega), if_pos hw1]
    rw [hw1] at hu
    cases hq : s.q with
    | nil =>
      have hn : s.next < g.n := hmore.elim id (fun k => absurd hq k)
      have hun : s.unit g.e = { s.look s.next with next := s.next + 1 } := by unfold CyS.unit; rw [if_pos hq]
      rw [hun] at hu ⊢
      refine ⟨.mk1 (h1.look hw1 hq hn) hu (by show s.next + 1 ≤ g.n; omega), ?_⟩
      have h2 : Fp g.n g.e 3 (s.look s.next) = Fp g.n g.e 3 s := by
        unfold CyS.look
        rw [if_neg (by omega)]
        split
        · exact (Fp.paint hn h1.fl.wt).1
        · rw [if_neg (by omega)]
      have h3 := Fp.step (n := g.n) (e := g.e) (c := 3) (s := s.look s.next) (by rw [(look_same _).2]; exact hn)
      rw [(look_same _).2] at h3
      dsimp only
      omega
    | cons i r =>
      have hun : s.unit g.e = s.follow g.e := by unfold CyS.unit; rw [if_neg (by rw [hq]; simp)]
      rw [hun] at hu ⊢
      refine ⟨.mk1 (h1.follow hg hw1 hq) hu (by rw [(follow_same _).2]; exact h.nx), ?_⟩
      rw [follow_cons hq]
      have hed := (h1.fl.ed i r hq).1
      by_cases he : s.edge = (g.e i).length
      · rw [if_pos he]
        have := Fp.pop (n := g.n) (e := g.e) (c := 3) hq he
        omega
      · rw [if_neg he, if_neg (by omega)]
        have hlt : s.edge < (g.e i).length := by omega
        have h4 := Fp.edge (n := g.n) (e := g.e) (c := 3) (h := s.held) hq hlt
        have h5 := (Fp.paint (n := g.n) (e := g.e) (c := 3) (s := { s with edge := s.edge + 1 }) (hg.e i _ (getD_mem hlt)) (by
          simp only [hq, wt]
          omega)).1
        omega
  · have h2 := h.s2 hw2
    have hn : s.next < g.n := hmore.elim id (fun k => absurd h2.q k)
    unfold Phi
    rw [hu, if_neg (by omega), if_neg (by omega), if_pos hw2, if_neg (by omega), if_neg (by omega), if_pos hw2]
    rw [hw2] at hu
    have hun : s.unit g.e = { s.look s.next with next := s.next + 1 } := by unfold CyS.unit; rw [if_pos h2.q]
    rw [hun] at hu ⊢
    refine ⟨.mk2 (h2.look hw2 hn) hu (by show s.next + 1 ≤ g.n; omega), ?_⟩
    show g.n - (s.next + 1) < g.n - s.next
    omega
/-- Behind a sweep. -/
theorem CyJ.turn (h : CyJ g s) (hg : GrOk g) (hw : s.sw < 3) (hn : g.n ≤ s.next) (hq : s.q = []) : CyJ g s.turn ∧ Phi g s.turn ≤ Phi g s := by
  have hcase : s.sw = 0 ∨ s.sw = 1 ∨ s.sw = 2 := by omega
  have hsw : s.turn.sw = s.sw + 1 := rfl
  rcases hcase with hw0 | hw1 | hw2
  · have h0 := h.s0 hw0
    refine ⟨.mk1 (h0.turn hg hq hn) (by omega) (Nat.zero_le _), ?_⟩
    unfold Phi
    rw [hsw, if_neg (by omega), if_pos (by omega), if_pos hw0]
    have h1 := un_le g.e s.turn.col 3 g.n
    have h2 : wt g.e s.turn.q = 0 := by show wt g.e s.q = 0; rw [hq]; rfl
    unfold Fp
    rw [h2]
    omega
  · have h1 := h.s1 hw1
    refine ⟨.mk2 (h1.turn hg hq hn) (by omega) (Nat.zero_le _), ?_⟩
    unfold Phi
    rw [hsw, if_neg (by omega), if_neg (by omega), if_pos (by omega), if_neg (by omega), if_pos hw1]
    omega
  · have h2 := h.s2 hw2
    refine ⟨⟨by omega, Nat.zero_le _, fun k => by omega, fun k => by omega, fun k => by omega, fun _ => ?_, h.qn, h.qc, h.ed, fun _ _ k => by omega, h.fl⟩, ?_⟩
    · have := h2.fo
      rw [show s.next = g.n by have := h.nx; omega] at this
      exact this
    · unfold Phi
      rw [hsw, if_neg (by omega), if_neg (by omega), if_neg (by omega)]
      exact Nat.zero_le _
theorem Phi_new (h1 : s.sw = 0) (h2 : s.next = 0) (h3 : s.q = []) : Phi g s ≤ 5 * g.n + 2 * tot g.e g.n := by
  unfold Phi
  rw [if_pos h1]
  unfold Fp
  rw [h2, h3]
  have := un_le g.e s.col 2 g.n
  simp only [wt]
  omega
end
end Go.Proofs.Ytjmhlmohennknab
