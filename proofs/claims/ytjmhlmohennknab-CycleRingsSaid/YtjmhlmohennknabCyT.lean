/-
  The three sweeps plainly, on: a unit keeps what is true; the bound. It speaks of no program.
-/
import Derived.Test.YtjmhlmohennknabCyS
namespace Go.Proofs.Ytjmhlmohennknab
open Go

section
variable {g : Gr} {s : CyS}
theorem getD_mem {l : List Nat} {k : Nat} (h : k < l.length) : l.getD k 0 ∈ l := by
  rw [List.getD_eq_getElem?_getD, List.getElem?_eq_getElem h]
  exact List.getElem_mem h
theorem Sw0.hdb (h : Sw0 g s) {j : Nat} (hj : j < g.n) : g.c j - tot g.e g.n ≤ s.held j ∧ s.held j ≤ g.c j := by
  have h1 := h.hd j hj
  have key : into g.e (fun i => 2 ≤ s.col i ∧ i ∉ s.q) g.n j + part g.e s j ≤ tot g.e g.n := by
    cases hq : s.q with
    | nil =>
      have := into_le g.e (fun i => 2 ≤ s.col i ∧ i ∉ s.q) g.n j
      unfold part
      rw [hq] at this ⊢
      exact this
    | cons i r =>
      have hi := h.fl.qc i (by rw [hq]; simp)
      have h2 := into_add (e := g.e) (P := fun i => 2 ≤ s.col i ∧ i ∉ s.q) (Q := fun k => (2 ≤ s.col k ∧ k ∉ s.q) ∨ k = i) hi.1 (fun k => k.2 (by rw [hq]; simp)) (fun k _ => Iff.rfl) j
      have h3 := into_le g.e (fun k => (2 ≤ s.col k ∧ k ∉ s.q) ∨ k = i) g.n j
      have h4 : part g.e s j ≤ (g.e i).count j := by
        unfold part
        rw [hq]
        exact (List.take_sublist _ _).count_le _
      rw [← hq]
      omega
  omega
theorem follow_cons {e : Nat → List Nat} {i : Nat} {r : List Nat} (hq : s.q = i :: r) : s.follow e = if s.edge = (e i).length then { s with q := r, edge := 0 }
    else if s.sw = 0 then ({ s with edge := s.edge + 1, held := upd s.held ((e i).getD s.edge 0) (s.held ((e i).getD s.edge 0) - 1) } : CyS).paint ((e i).getD s.edge 0) 2
    else ({ s with edge := s.edge + 1 } : CyS).paint ((e i).getD s.edge 0) 3 := by
  unfold CyS.follow
  split
  · rename_i h; rw [h] at hq; cases hq
  · rename_i h; rw [h] at hq; cases hq; rfl
/-- A run that has done nothing. -/
theorem Sw0.new (h1 : ∀ i, i < g.n → s.col i < 2) (h0 : ∀ i, i < g.n → (s.col i = 1 ↔ g.s i)) (hh : ∀ j, j < g.n → s.held j = g.c j) (h2 : s.next = 0) (h3 : s.q = []) (h4 : s.edge = 0) (h5 : s.found = []) : Sw0 g s := by
  refine ⟨.new h1 h2 h3 h4, fun i hi => (by have := h1 i hi; omega), fun i hi _ => h0 i hi, fun j hj => ?_, h5⟩
  have h6 : into g.e (fun i => 2 ≤ s.col i ∧ i ∉ s.q) g.n j = 0 := by
    have : into g.e (fun i => 2 ≤ s.col i ∧ i ∉ s.q) g.n j = into g.e (fun _ => False) g.n j := into_congr (fun i hi => ⟨fun k => by have := h1 i hi; have := k.1; omega, fun k => k.elim⟩) j
    rw [this]
    clear this
    generalize g.n = m
    induction m with
    | zero => rfl
    | succ m ih => unfold into; rw [ih]; simp
  have h7 : part g.e s j = 0 := by unfold part; rw [h3]
  rw [h6, h7, hh j hj]
  omega
/-- The first sweep looks at a node. -/
theorem Sw0.look (h : Sw0 g s) (hw : s.sw = 0) (hq : s.q = []) (hn : s.next < g.n) : Sw0 g { s.look s.next with next := s.next + 1 } := by
  unfold CyS.look
  by_cases h1 : s.col s.next = 1
  · rw [if_pos ⟨hw, h1⟩]
    have hs : g.s s.next := (h.c1 _ hn (by omega)).1 h1
    obtain ⟨r1, r2, r3, r4, r5⟩ := paint_rest (s := s) (j := s.next) (c := 2)
    have hfl := h.fl.paint hn (.from_ hs) (fun _ => h.fl.e0 hq)
    have hcol : ∀ i, (s.paint s.next 2).col i = if i = s.next then 2 else s.col i := fun i => by
      rw [paint_col, h1]; simp
    have hq2 : (s.paint s.next 2).q = [s.next] := by rw [paint_q, if_pos (by omega), hq]; rfl
    refine ⟨?_, fun i hi => ?_, fun i hi hc => ?_, fun j hj => ?_, ?_⟩
    · have h2 := hfl.step (by rw [r3]; exact fun _ => paint_ge)
      rw [r3] at h2
      exact h2
    · simp only [hcol]
      split
      · exact Nat.le_refl _
      · exact h.c2 i hi
    · simp only [hcol] at hc ⊢
      split at hc
      · omega
      · rename_i hne
        rw [if_neg hne]
        exact h.c1 i hi hc
    · have h3 := h.hd j hj
      have h4 : part g.e s j = 0 := by unfold part; rw [hq]
      have h5 : part g.e { s.paint s.next 2 with next := s.next + 1 } j = 0 := by
        unfold part
        simp only [hq2, r4, h.fl.e0 hq]
        simp
      rw [h5]
      simp only [r1]
      rw [h3, h4]
      have h6 : into g.e (fun i => 2 ≤ s.col i ∧ i ∉ s.q) g.n j = into g.e (fun i => 2 ≤ (s.paint s.next 2).col i ∧ i ∉ (s.paint s.next 2).q) g.n j := into_congr (fun i hi => by
        rw [hcol, hq2, hq]
        by_cases hin : i = s.next
        · simp [hin, h1]
        · simp [hin]) j
      rw [h6]
    · exact r5.trans h.fo
  · rw [if_neg (fun k => h1 k.2), if_neg (by omega), if_neg (by omega)]
    refine ⟨h.fl.step (fun hs => ?_), h.c2, h.c1, ?_, h.fo⟩
    · have h2 := h.c2 _ hn
      by_cases h3 : s.col s.next < 2
      · exact absurd ((h.c1 _ hn h3).2 hs) h1
      · omega
    · exact h.hd
/-- The first sweep goes over an edge, or lets one wait no longer. -/
theorem Sw0.follow (h : Sw0 g s) (hg : GrOk g) (hw : s.sw = 0) {i : Nat} {r : List Nat} (hq : s.q = i :: r) : Sw0 g (s.follow g.e) := by
  have hi := h.fl.qc i (by rw [hq]; simp)
  have hed := h.fl.ed i r hq
  have hnd := h.fl.qn
  rw [hq, List.nodup_cons] at hnd
  rw [follow_cons hq]
  by_cases he : s.edge = (g.e i).length
  · rw [if_pos he]
    refine ⟨h.fl.pop hq he, h.c2, h.c1, fun j hj => ?_, h.fo⟩
    have h1 := h.hd j hj
    have h2 : part g.e s j = (g.e i).count j := by unfold part; rw [hq]; simp only; rw [he, List.take_length]
    have h3 : part g.e { s with q := r, edge := 0 } j = 0 := by
      unfold part
      simp only
      split <;> simp
    have h4 := into_add (e := g.e) (P := fun k => 2 ≤ s.col k ∧ k ∉ s.q) (Q := fun k => 2 ≤ s.col k ∧ k ∉ r) hi.1 (fun k => k.2 (by rw [hq]; simp)) (fun k hk => by
      rw [hq]
      by_cases hki : k = i
      · subst hki; simp [hi.2, hnd.1]
      · simp [hki]) j
    rw [h3]
    simp only
    rw [h1, h4, h2]
    omega
  · rw [if_neg he, if_pos hw]
    have hlt : s.edge < (g.e i).length := by omega
    obtain ⟨t, ht⟩ : ∃ t, t = (g.e i).getD s.edge 0 := ⟨_, rfl⟩
    have htm : t ∈ g.e i := ht ▸ getD_mem hlt
    have htn := hg.e i t htm
    rw [← ht]
    obtain ⟨s1, hs1⟩ : ∃ s1 : CyS, s1 = { s with held := upd s.held t (s.held t - 1) } := ⟨_, rfl⟩
    have hf1 : Fl g.n g.e g.s 2 s1 := by rw [hs1]; exact ⟨h.fl.rc, h.fl.sd, h.fl.qn, h.fl.qc, h.fl.cl, h.fl.ed, h.fl.e0⟩
    have hf2 := hf1.paint htn (.edge (h.fl.rc i hi.1 hi.2) htm) hf1.e0
    have e1 : s1.q = s.q := by rw [hs1]
    have e2 : s1.edge = s.edge := by rw [hs1]
    have e3 : s1.col = s.col := by rw [hs1]
    obtain ⟨r1, r2, r3, r4, r5⟩ := paint_rest (s := s1) (j := t) (c := 2)
    have hqh : ∃ r', (s1.paint t 2).q = i :: r' := by
      rw [paint_q, e1, hq]
      split
      · exact ⟨r ++ [t], rfl⟩
      · exact ⟨r, rfl⟩
    obtain ⟨r', hqr⟩ := hqh
    have hf3 := hf2.edge hqr (by rw [r4, e2]; exact hlt) (by rw [r4, e2, ← ht]; exact paint_ge)
    have heq : ({ s with edge := s.edge + 1, held := upd s.held t (s.held t - 1) } : CyS).paint t 2 = { s1.paint t 2 with edge := s.edge + 1 } := by
      unfold CyS.paint
      rw [hs1]
      simp only
      split <;> rfl
    rw [heq]
    rw [r4, e2] at hf3
    have hcol : ∀ k, (s1.paint t 2).col k = if k = t ∧ s.col t < 2 then 2 else s.col k := fun k => by rw [paint_col, e3]
    refine ⟨hf3, fun k hk => ?_, fun k hk hc => ?_, fun j hj => ?_, ?_⟩
    · simp only [hcol]
      split
      · exact Nat.le_refl _
      · exact h.c2 k hk
    · simp only [hcol] at hc ⊢
      split at hc
      · omega
      · rename_i hne
        rw [if_neg hne]
        exact h.c1 k hk hc
    · have h1 := h.hd j hj
      have h2 : part g.e s j = ((g.e i).take s.edge).count j := by unfold part; rw [hq]
      have h3 : part g.e { s1.paint t 2 with edge := s.edge + 1 } j = ((g.e i).take s.edge).count j + if t = j then 1 else 0 := by
        unfold part
        simp only [hqr]
        rw [List.take_succ_eq_append_getElem hlt, List.count_append]
        have : (g.e i)[s.edge] = t := by rw [ht, List.getD_eq_getElem?_getD, List.getElem?_eq_getElem hlt]; rfl
        rw [this]
        by_cases htj : t = j
        · simp [htj]
        · simp [htj]
      have h4 : into g.e (fun k => 2 ≤ s.col k ∧ k ∉ s.q) g.n j = into g.e (fun k => 2 ≤ (s1.paint t 2).col k ∧ k ∉ (s1.paint t 2).q) g.n j := into_congr (fun k hk => by
        rw [hcol, paint_q, e3, e1]
        by_cases hc : s.col t < 2
        · rw [if_pos hc]
          by_cases hkt : k = t
          · subst hkt
            simp
            omega
          · simp [hkt]
        · rw [if_neg hc, if_neg (fun k => hc k.2)]) j
      rw [h3]
      simp only [r1]
      rw [← h4, hs1]
      simp only
      by_cases htj : t = j
      · subst htj
        rw [upd_same, if_pos rfl, h1, h2]
        omega
      · rw [upd_other (fun k => htj k.symm), if_neg htj, h1, h2]
        omega
    · simp only [r5]
      rw [hs1]
      exact h.fo
/-- Behind the first sweep. -/
theorem Sw0.turn (h : Sw0 g s) (hg : GrOk g) (hq : s.q = []) (hn : g.n ≤ s.next) : Sw1 g s.turn := by
  have hr : ∀ i, i < g.n → (2 ≤ s.col i ↔ g.reach i) := fun i hi => h.fl.done hg.s hg.e hn hq hi
  refine ⟨.new (fun i hi => (by have := h.c2 i hi; show s.col i < 3; omega)) rfl hq (h.fl.e0 hq), hr, fun i hi => (by have := h.c2 i hi; show s.col i ≤ 3; omega), fun j hj => ?_, h.fo⟩
  have h1 := h.hd j hj
  have h2 : part g.e s j = 0 := by unfold part; rw [hq]
  have h3 : into g.e (fun i => 2 ≤ s.col i ∧ i ∉ s.q) g.n j = into g.e g.reach g.n j := into_congr (fun i hi => by rw [hq]; simp [hr i hi]) j
  show s.held j = _
  rw [h1, h2, h3]
  omega
/-- The second sweep looks at a node. -/
theorem Sw1.look (h : Sw1 g s) (hw : s.sw = 1) (hq : s.q = []) (hn : s.next < g.n) : Sw1 g { s.look s.next with next := s.next + 1 } := by
  unfold CyS.look
  rw [if_neg (by omega)]
  by_cases h1 : s.col s.next = 2 ∧ 0 < s.held s.next
  · rw [if_pos ⟨hw, h1⟩]
    have hs : g.outer s.next := ⟨(h.c2 _ hn).1 (by omega), by have := h.hd _ hn; have := h1.2; omega⟩
    obtain ⟨r1, r2, r3, r4, r5⟩ := paint_rest (s := s) (j := s.next) (c := 3)
    have hfl := h.fl.paint hn (.from_ hs) (fun _ => h.fl.e0 hq)
    have hcol : ∀ i, (s.paint s.next 3).col i = if i = s.next then 3 else s.col i := fun i => by
      rw [paint_col, h1.1]; simp
    refine ⟨?_, fun i hi => ?_, fun i hi => ?_, fun j hj => ?_, ?_⟩
    · have h2 := hfl.step (by rw [r3]; exact fun _ => paint_ge)
      rw [r3] at h2
      exact h2
    · simp only [hcol]
      split
      · rename_i hin
        rw [hin]
        exact ⟨fun _ => hs.1, fun _ => by omega⟩
      · exact h.c2 i hi
    · simp only [hcol]
      split
      · exact Nat.le_refl _
      · exact h.c3 i hi
    · simp only [r1]
      exact h.hd j hj
    · exact r5.trans h.fo
  · rw [if_neg (fun k => h1 k.2), if_neg (by omega)]
    refine ⟨h.fl.step (fun hs => ?_), h.c2, h.c3, h.hd, h.fo⟩
    have h2 := (h.c2 _ hn).2 hs.1
    have h3 := h.c3 _ hn
    have h4 := h.hd _ hn
    have h5 := hs.2
    by_cases h6 : s.col s.next = 2
    · exact absurd ⟨h6, by omega⟩ h1
    · omega
/-- The second sweep goes over an edge, or lets one wait no longer. -/
theorem Sw1.follow (h : Sw1 g s) (hg : GrOk g) (hw : s.sw = 1) {i : Nat} {r : List Nat} (hq : s.q = i :: r) : Sw1 g (s.follow g.e) := by
  have hi := h.fl.qc i (by rw [hq]; simp)
  rw [follow_cons hq]
  by_cases he : s.edge = (g.e i).length
  · rw [if_pos he]
    exact ⟨h.fl.pop hq he, h.c2, h.c3, h.hd, h.fo⟩
  · have hed := h.fl.ed i r hq
    rw [if_neg he, if_neg (by omega)]
    have hlt : s.edge < (g.e i).length := by omega
    obtain ⟨t, ht⟩ : ∃ t, t = (g.e i).getD s.edge 0 := ⟨_, rfl⟩
    have htm : t ∈ g.e i := ht ▸ getD_mem hlt
    have htn := hg.e i t htm
    rw [← ht]
    have hf2 := h.fl.paint htn (.edge (h.fl.rc i hi.1 hi.2) htm) h.fl.e0
    obtain ⟨r1, r2, r3, r4, r5⟩ := paint_rest (s := s) (j := t) (c := 3)
    have hqh : ∃ r', (s.paint t 3).q = i :: r' := by
      rw [paint_q, hq]
      split
      · exact ⟨r ++ [t], rfl⟩
      · exact ⟨r, rfl⟩
    obtain ⟨r', hqr⟩ := hqh
    have hf3 := hf2.edge hqr (by rw [r4]; exact hlt) (by rw [r4, ← ht]; exact paint_ge)
    have heq : ({ s with edge := s.edge + 1 } : CyS).paint t 3 = { s.paint t 3 with edge := s.edge + 1 } := by
      unfold CyS.paint
      simp only
      split <;> rfl
    rw [heq]
    rw [r4] at hf3
    have hrt : g.reach t := .edge ((h.c2 i hi.1).1 (by omega)) htm
    refine ⟨hf3, fun k hk => ?_, fun k hk => ?_, fun j hj => ?_, ?_⟩
    · simp only [paint_col]
      split
      · rename_i hkt
        rw [hkt.1]
        exact ⟨fun _ => hrt, fun _ => by omega⟩
      · exact h.c2 k hk
    · simp only [paint_col]
      split
      · exact Nat.le_refl _
      · exact h.c3 k hk
    · simp only [r1]
      exact h.hd j hj
    · exact r5.trans h.fo
theorem Sw1.turn (h : Sw1 g s) (hg : GrOk g) (hq : s.q = []) (hn : g.n ≤ s.next) : Sw2 g s.turn := by
  refine ⟨h.c2, fun i hi => h.fl.done (fun k hk => Gr.reach_lt hg hk.1) hg.e hn hq hi, h.fo.trans ?_, hq, h.fl.e0 hq⟩
  show [] = List.filter _ (List.range 0)
  rfl
theorem Sw2.look (h : Sw2 g s) (hw : s.sw = 2) (hn : s.next < g.n) : Sw2 g { s.look s.next with next := s.next + 1 } := by
  unfold CyS.look
  rw [if_neg (by omega), if_neg (by omega)]
  have h1 := h.c2 _ hn
  have h2 := h.c3 _ hn
  by_cases h3 : s.col s.next = 2
  · rw [if_pos ⟨hw, h3⟩]
    refine ⟨h.c2, h.c3, ?_, h.q, h.e0⟩
    simp only
    rw [List.range_succ, List.filter_append, ← h.fo]
    congr 1
    rw [List.filter_cons_of_pos (by simp; exact ⟨h1.1 (by omega), fun k => by have := h2.2 k; omega⟩)]
    rfl
  · rw [if_neg (fun k => h3 k.2)]
    refine ⟨h.c2, h.c3, ?_, h.q, h.e0⟩
    simp only
    rw [List.range_succ, List.filter_append, ← h.fo]
    rw [List.filter_cons_of_neg (by
      simp only [decide_eq_true_eq]
      intro k
      have := h1.2 k.1
      exact k.2 (h2.1 (by omega)))]
    simp
end
end Go.Proofs.Ytjmhlmohennknab
