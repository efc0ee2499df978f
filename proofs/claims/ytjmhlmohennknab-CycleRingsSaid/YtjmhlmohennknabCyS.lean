/-
  The three sweeps plainly: a unit of work at a time; what stays true; when it is over, what is found is the garbage; how many units there are. It speaks of no program.
-/
import Derived.Test.YtjmhlmohennknabCyM
namespace Go.Proofs.Ytjmhlmohennknab
open Go

/-- A run: colours, what is left of the counts, the sweep, the next node, who waits, the place of the next edge, what is found. -/
structure CyS where
  col : Nat → Nat
  held : Nat → Int
  sw : Nat
  next : Nat
  q : List Nat
  edge : Nat
  found : List Nat
def upd {α : Type} (f : Nat → α) (k : Nat) (v : α) : Nat → α := fun i => if i = k then v else f i
theorem upd_same {α : Type} (f : Nat → α) (k : Nat) (v : α) : upd f k v k = v := if_pos rfl
theorem upd_other {α : Type} {f : Nat → α} {k : Nat} {v : α} {i : Nat} (h : i ≠ k) : upd f k v i = f i := if_neg h
namespace CyS
def paint (s : CyS) (j c : Nat) : CyS := if s.col j < c then { s with col := upd s.col j c, q := s.q ++ [j] } else s
def look (s : CyS) (i : Nat) : CyS :=
  if s.sw = 0 ∧ s.col i = 1 then s.paint i 2
  else if s.sw = 1 ∧ s.col i = 2 ∧ 0 < s.held i then s.paint i 3
  else if s.sw = 2 ∧ s.col i = 2 then { s with found := s.found ++ [i] } else s
def follow (e : Nat → List Nat) (s : CyS) : CyS :=
  match s.q with
  | [] => s
  | i :: r =>
    if s.edge = (e i).length then { s with q := r, edge := 0 }
    else if s.sw = 0 then ({ s with edge := s.edge + 1, held := upd s.held ((e i).getD s.edge 0) (s.held ((e i).getD s.edge 0) - 1) } : CyS).paint ((e i).getD s.edge 0) 2
    else ({ s with edge := s.edge + 1 } : CyS).paint ((e i).getD s.edge 0) 3
def unit (e : Nat → List Nat) (s : CyS) : CyS := if s.q = [] then { s.look s.next with next := s.next + 1 } else s.follow e
def turn (s : CyS) : CyS := { s with sw := s.sw + 1, next := 0 }
end CyS
theorem paint_col {s : CyS} {j c i : Nat} : (s.paint j c).col i = if i = j ∧ s.col j < c then c else s.col i := by
  unfold CyS.paint
  by_cases h : s.col j < c
  · rw [if_pos h]
    simp only [upd, h, and_true]
  · rw [if_neg h, if_neg (fun k => h k.2)]
theorem paint_le {s : CyS} {j c i : Nat} : s.col i ≤ (s.paint j c).col i := by
  rw [paint_col]
  split
  · rename_i h; rw [h.1]; omega
  · exact Nat.le_refl _
theorem paint_ge {s : CyS} {j c : Nat} : c ≤ (s.paint j c).col j := by
  rw [paint_col]
  by_cases h : s.col j < c
  · rw [if_pos ⟨rfl, h⟩]; exact Nat.le_refl _
  · rw [if_neg (fun k => h k.2)]; omega
theorem paint_q {s : CyS} {j c : Nat} : (s.paint j c).q = if s.col j < c then s.q ++ [j] else s.q := by
  unfold CyS.paint; split <;> rfl
theorem paint_rest {s : CyS} {j c : Nat} : (s.paint j c).held = s.held ∧ (s.paint j c).sw = s.sw ∧ (s.paint j c).next = s.next ∧ (s.paint j c).edge = s.edge ∧ (s.paint j c).found = s.found := by
  unfold CyS.paint; split <;> exact ⟨rfl, rfl, rfl, rfl, rfl⟩

/-- A flood: a colour is spread from some nodes along the edges. -/
structure Fl (n : Nat) (e : Nat → List Nat) (S : Nat → Prop) (c : Nat) (s : CyS) : Prop where
  rc : ∀ i, i < n → c ≤ s.col i → Rch e S i
  sd : ∀ i, i < s.next → S i → c ≤ s.col i
  qn : s.q.Nodup
  qc : ∀ i ∈ s.q, i < n ∧ c ≤ s.col i
  cl : ∀ i, i < n → c ≤ s.col i → i ∉ s.q → ∀ j ∈ e i, c ≤ s.col j
  ed : ∀ i r, s.q = i :: r → s.edge ≤ (e i).length ∧ ∀ j ∈ (e i).take s.edge, c ≤ s.col j
  e0 : s.q = [] → s.edge = 0
section
variable {n : Nat} {e : Nat → List Nat} {S : Nat → Prop} {c : Nat} {s : CyS}
theorem Fl.new (h1 : ∀ i, i < n → s.col i < c) (h2 : s.next = 0) (h3 : s.q = []) (h4 : s.edge = 0) : Fl n e S c s :=
  ⟨fun i hi h => absurd h (by have := h1 i hi; omega), fun i hi => (by omega), (by rw [h3]; exact List.nodup_nil), (fun i hi => by rw [h3] at hi; cases hi), fun i hi h => absurd h (by have := h1 i hi; omega), (fun i r hq => by rw [h3] at hq; cases hq), fun _ => h4⟩
/-- A node of the set, or behind an edge, is painted; who waits, waits on. -/
theorem Fl.paint (h : Fl n e S c s) {j : Nat} (hj : j < n) (hr : Rch e S j) (he : s.q = [] → s.edge = 0) : Fl n e S c (s.paint j c) := by
  obtain ⟨_, _, r3, r4, _⟩ := paint_rest (s := s) (j := j) (c := c)
  by_cases hc : s.col j < c
  · have hjq : j ∉ s.q := fun hm => by have := (h.qc j hm).2; omega
    have hq : (s.paint j c).q = s.q ++ [j] := by rw [paint_q, if_pos hc]
    refine ⟨fun i hi hci => ?_, fun i hi hs => ?_, ?_, fun i hi => ?_, fun i hi hci hiq k hk => ?_, fun i r hqr => ?_, fun hq0 => ?_⟩
    · by_cases hij : i = j
      · rw [hij]; exact hr
      · rw [paint_col, if_neg (fun k => hij k.1)] at hci
        exact h.rc i hi hci
    · rw [r3] at hi
      exact Nat.le_trans (h.sd i hi hs) paint_le
    · rw [hq, List.nodup_append]
      exact ⟨h.qn, by simp, fun a ha b hb => by simp at hb; subst hb; exact fun k => hjq (k ▸ ha)⟩
    · rw [hq] at hi
      rcases List.mem_append.1 hi with hi | hi
      · exact ⟨(h.qc i hi).1, Nat.le_trans (h.qc i hi).2 paint_le⟩
      · simp at hi
        subst hi
        exact ⟨hj, paint_ge⟩
    · rw [hq, List.mem_append, not_or] at hiq
      have hij : i ≠ j := fun k => hiq.2 (by simp [k])
      rw [paint_col, if_neg (fun k => hij k.1)] at hci
      exact Nat.le_trans (h.cl i hi hci hiq.1 k hk) paint_le
    · rw [r4]
      rw [hq] at hqr
      cases hsq : s.q with
      | nil =>
        rw [hsq] at hqr
        rw [he hsq]
        exact ⟨Nat.zero_le _, fun k hk => by simp at hk⟩
      | cons a l =>
        rw [hsq] at hqr
        simp only [List.cons_append, List.cons.injEq] at hqr
        obtain ⟨h1, h2⟩ := h.ed a l hsq
        rw [← hqr.1]
        exact ⟨h1, fun k hk => Nat.le_trans (h2 k hk) paint_le⟩
    · rw [hq] at hq0
      simp at hq0
  · have : s.paint j c = s := by unfold CyS.paint; rw [if_neg hc]
    rw [this]
    exact h
/-- One step further. -/
theorem Fl.step (h : Fl n e S c s) (hs : S s.next → c ≤ s.col s.next) : Fl n e S c { s with next := s.next + 1 } :=
  ⟨h.rc, fun i hi hsi => by
    by_cases hin : i = s.next
    · rw [hin] at hsi ⊢; exact hs hsi
    · exact h.sd i (by simp only at hi; omega) hsi, h.qn, h.qc, h.cl, h.ed, h.e0⟩
/-- The first one waits no longer. -/
theorem Fl.pop (h : Fl n e S c s) {i : Nat} {r : List Nat} (hq : s.q = i :: r) (he : s.edge = (e i).length) : Fl n e S c { s with q := r, edge := 0 } := by
  have hn := h.qn
  rw [hq, List.nodup_cons] at hn
  obtain ⟨_, h2⟩ := h.ed i r hq
  rw [he, List.take_length] at h2
  exact ⟨h.rc, h.sd, hn.2, fun k hk => h.qc k (by rw [hq]; exact List.mem_cons_of_mem _ hk), fun k hk hck hkr j hj => by
    by_cases hki : k = i
    · rw [hki] at hj; exact h2 j hj
    · exact h.cl k hk hck (by rw [hq, List.mem_cons, not_or]; exact ⟨hki, hkr⟩) j hj, fun _ _ _ => ⟨Nat.zero_le _, fun k hk => by simp at hk⟩, fun _ => rfl⟩
/-- One edge further: painted first, counted then. -/
theorem Fl.edge (h : Fl n e S c s) {i : Nat} {r : List Nat} (hq : s.q = i :: r) (he : s.edge < (e i).length) (hc : c ≤ s.col ((e i).getD s.edge 0)) : Fl n e S c { s with edge := s.edge + 1 } := by
  refine ⟨h.rc, h.sd, h.qn, h.qc, h.cl, fun k r' hk => ?_, fun h0 => ?_⟩
  · simp only at hk ⊢
    rw [hq] at hk
    simp only [List.cons.injEq] at hk
    rw [← hk.1]
    refine ⟨he, fun j hj => ?_⟩
    rw [List.take_succ_eq_append_getElem he, List.mem_append] at hj
    rcases hj with hj | hj
    · exact (h.ed i r hq).2 j hj
    · simp at hj
      rw [List.getD_eq_getElem?_getD, List.getElem?_eq_getElem he] at hc
      rw [hj]
      exact hc
  · simp only at h0
    rw [hq] at h0
    cases h0
/-- Behind the last: the colour is who is come to. -/
theorem Fl.done (h : Fl n e S c s) (hS : ∀ i, S i → i < n) (he : ∀ i, ∀ j ∈ e i, j < n) (hn : n ≤ s.next) (hq : s.q = []) {i : Nat} (hi : i < n) : c ≤ s.col i ↔ Rch e S i := by
  refine ⟨h.rc i hi, fun hr => ?_⟩
  have := hr.in_ (P := fun i => i < n ∧ c ≤ s.col i) (fun i hs => ⟨hS i hs, h.sd i (by have := hS i hs; omega) hs⟩) (fun i j hp hj => ⟨he i j hj, h.cl i hp.1 hp.2 (by rw [hq]; simp) j hj⟩)
  exact this.2
end
/-- How many edges of the first one that waits have been gone over. -/
def part (e : Nat → List Nat) (s : CyS) (j : Nat) : Nat :=
  match s.q with
  | [] => 0
  | i :: _ => ((e i).take s.edge).count j
/-- The first sweep. -/
structure Sw0 (g : Gr) (s : CyS) : Prop where
  fl : Fl g.n g.e g.s 2 s
  c2 : ∀ i, i < g.n → s.col i ≤ 2
  c1 : ∀ i, i < g.n → s.col i < 2 → (s.col i = 1 ↔ g.s i)
  hd : ∀ j, j < g.n → s.held j = g.c j - into g.e (fun i => 2 ≤ s.col i ∧ i ∉ s.q) g.n j - part g.e s j
  fo : s.found = []
/-- The second one. -/
structure Sw1 (g : Gr) (s : CyS) : Prop where
  fl : Fl g.n g.e g.outer 3 s
  c2 : ∀ i, i < g.n → (2 ≤ s.col i ↔ g.reach i)
  c3 : ∀ i, i < g.n → s.col i ≤ 3
  hd : ∀ j, j < g.n → s.held j = g.c j - into g.e g.reach g.n j
  fo : s.found = []
open Classical in
/-- The third one. -/
structure Sw2 (g : Gr) (s : CyS) : Prop where
  c2 : ∀ i, i < g.n → (2 ≤ s.col i ↔ g.reach i)
  c3 : ∀ i, i < g.n → (3 ≤ s.col i ↔ g.live i)
  fo : s.found = (List.range s.next).filter fun i => decide (g.reach i ∧ ¬ g.live i)
  q : s.q = []
  e0 : s.edge = 0
/-- What stays true of a run. -/
structure CyJ (g : Gr) (s : CyS) : Prop where
  sw : s.sw ≤ 3
  nx : s.next ≤ g.n
  s0 : s.sw = 0 → Sw0 g s
  s1 : s.sw = 1 → Sw1 g s
  s2 : s.sw = 2 → Sw2 g s
  s3 : s.sw = 3 → s.found = g.garb
  qn : s.q.Nodup
  qc : ∀ i ∈ s.q, i < g.n
  ed : ∀ i r, s.q = i :: r → s.edge ≤ (g.e i).length
  hd : ∀ j, j < g.n → s.sw < 2 → g.c j - tot g.e g.n ≤ s.held j ∧ s.held j ≤ g.c j
  fl : s.found.length ≤ g.n
end Go.Proofs.Ytjmhlmohennknab
