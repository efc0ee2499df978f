/-
  Graphs plainly: what is held from outside is never garbage, and all else is; behind the garbage nothing is left. It speaks of no program.
-/
import Derived.Test.YtjmhlmohennknabCyZ
namespace Go.Proofs.Ytjmhlmohennknab
open Go

section
variable {g : Gr}
theorem into_lt {e : Nat → List Nat} {P : Nat → Prop} {n i j : Nat} (hi : i < n) (hp : ¬ P i) (hj : j ∈ e i) : into e P n j < into e (fun _ => True) n j := by
  have h1 := into_or (e := e) (P := P) (Q := fun k => ¬ P k) (R := fun _ => True) (n := n) (fun k _ => ⟨fun _ => Classical.em _, fun _ => trivial⟩) (fun k _ h h2 => h2 h) j
  have h2 := into_pos (e := e) (P := fun k => ¬ P k) hi hp hj
  omega
/-- P13.3, its first half. -/
theorem safe_live (hg : GrOk g) {out : Nat → Prop} (hle : ∀ i, i < g.n → (into g.e (fun _ => True) g.n i : Int) ≤ g.c i) (ho : ∀ i, i < g.n → out i → (into g.e (fun _ => True) g.n i : Int) < g.c i) {j : Nat} (h : Rch g.e (fun k => k < g.n ∧ out k) j) : j < g.n ∧ (g.reach j → g.live j) := by
  induction h with
  | @from_ i hi =>
    refine ⟨hi.1, fun hr => .from_ ⟨hr, ?_⟩⟩
    have h1 := into_mono (e := g.e) (P := g.reach) (Q := fun _ => True) (n := g.n) (fun _ _ _ => trivial) i
    have h2 := ho i hi.1 hi.2
    omega
  | @edge i j _ hj ih =>
    have hjn := hg.e i j hj
    refine ⟨hjn, fun hr => ?_⟩
    by_cases hri : g.reach i
    · exact .edge (ih.2 hri) hj
    · have h1 := into_lt ih.1 hri hj
      have h2 := hle j hjn
      exact .from_ ⟨hr, by omega⟩
theorem safe_garb (hg : GrOk g) {F : Nat → Bool} (hle : ∀ i, i < g.n → (into g.e (fun _ => True) g.n i : Int) ≤ g.c i) (ho : ∀ i, i < g.n → F i = true → (into g.e (fun _ => True) g.n i : Int) < g.c i) {j : Nat} (h : j ∈ g.garb) : j < g.n ∧ rcB g.n g.e F j = false := by
  obtain ⟨h1, h2, h3⟩ := Gr.mem_garb.1 h
  refine ⟨h1, ?_⟩
  cases hq : rcB g.n g.e F j with
  | false => rfl
  | true => exact absurd ((safe_live hg (out := fun k => F k = true) hle ho (rcB_iff.1 hq)).2 h2) h3
/-- What is not told by a row of truths, till a place. -/
def noB (L : Nat → Bool) (t : Nat) : List Nat := (List.range t).filter fun i => !L i
theorem noB_succ (L : Nat → Bool) (t : Nat) : noB L (t + 1) = noB L t ++ if L t = false then [t] else [] := by
  unfold noB
  rw [List.range_succ, List.filter_append]
  congr 1
  cases h : L t <;> simp [List.filter, h]
theorem noB_pre (L : Nat → Bool) {t n : Nat} (h : t ≤ n) : noB L t <+: noB L n := by
  induction n with
  | zero => rw [Nat.le_zero.1 h]; exact List.prefix_refl _
  | succ n ih =>
    by_cases ht : t = n + 1
    · rw [ht]; exact List.prefix_refl _
    · refine (ih (by omega)).trans ?_
      rw [noB_succ]
      exact List.prefix_append _ _
theorem noB_at (L : Nat → Bool) {t n : Nat} (h : t < n) (hl : L t = false) : (noB L n)[(noB L t).length]? = some t := by
  obtain ⟨r, hr⟩ := noB_pre L (show t + 1 ≤ n by omega)
  rw [← hr, noB_succ, if_pos hl]
  simp
theorem noB_len (L : Nat → Bool) (t : Nat) : (noB L t).length ≤ t := by
  unfold noB
  refine Nat.le_trans (List.length_filter_le _ _) ?_
  simp
theorem noB_lt {L : Nat → Bool} {t i : Nat} (h : i ∈ noB L t) : i < t ∧ L i = false := by
  unfold noB at h
  have := List.mem_filter.1 h
  simp at this
  exact this
/-- All are suspects: the garbage is all that nothing from outside comes to. -/
theorem all_garb (hg : GrOk g) (hs : ∀ i, i < g.n → g.s i) {F : Nat → Bool} (ho : ∀ i, i < g.n → (F i = true ↔ (into g.e (fun _ => True) g.n i : Int) < g.c i)) : g.garb = noB (rcB g.n g.e F) g.n := by
  have hr : ∀ i, i < g.n → g.reach i := fun i hi => .from_ (hs i hi)
  have hi : ∀ i, into g.e g.reach g.n i = into g.e (fun _ => True) g.n i := fun i => into_congr (fun k hk => ⟨fun _ => trivial, fun _ => hr k hk⟩) i
  have ho2 : ∀ k, (k < g.n ∧ F k = true) ↔ g.outer k := fun k => by
    unfold Gr.outer
    rw [hi]
    exact ⟨fun h => ⟨hr k h.1, (ho k h.1).1 h.2⟩, fun h => ⟨Gr.reach_lt hg h.1, (ho k (Gr.reach_lt hg h.1)).2 h.2⟩⟩
  have hl : ∀ i, rcB g.n g.e F i = true ↔ g.live i := fun i => by
    rw [rcB_iff]
    exact ⟨fun h => h.mono (fun k hk => (ho2 k).1 hk), fun h => h.mono (fun k hk => (ho2 k).2 hk)⟩
  unfold Gr.garb noB
  refine List.filter_congr fun i hi => ?_
  have h1 := hr i (List.mem_range.1 hi)
  rw [Bool.eq_iff_iff]
  simp only [decide_eq_true_eq, Bool.not_eq_true']
  constructor
  · rintro ⟨_, h⟩
    cases hq : rcB g.n g.e F i with
    | true => exact absurd ((hl i).1 hq) h
    | false => rfl
  · intro h
    exact ⟨h1, fun k => by rw [(hl i).2 k] at h; cases h⟩
/-- Behind the garbage: its edges taken off, nothing more is garbage. F: who is held from outside; c2, e2: counts and edges then. -/
theorem rest_garb {n : Nat} {e e2 : Nat → List Nat} {c2 : Nat → Int} {F : Nat → Bool} {s2 : Nat → Prop} (he : ∀ i, ∀ j ∈ e i, j < n) (hs2 : ∀ i, i < n → (s2 i ↔ rcB n e F i = true)) (hs3 : ∀ i, s2 i → i < n)
    (he2 : ∀ i, i < n → e2 i = if rcB n e F i = true then e i else [])
    (hc2 : ∀ i, i < n → F i = true → (into e (fun k => rcB n e F k = true) n i : Int) < c2 i) : (Gr.mk n c2 e2 s2).garb = [] := by
  have hlive : ∀ i, rcB n e F i = true → i < n := fun i h => (rcB_iff.1 h).lt (fun k hk => hk.1) he
  have hreach : ∀ i, (Gr.mk n c2 e2 s2).reach i → rcB n e F i = true := fun i h => by
    refine h.in_ (P := fun i => rcB n e F i = true) (fun k hk => (hs2 k (hs3 k hk)).1 hk) (fun a b ha hb => ?_)
    have han := hlive a ha
    have hb' : b ∈ e2 a := hb
    rw [he2 a han, if_pos ha] at hb'
    exact rcB_iff.2 (.edge (rcB_iff.1 ha) hb')
  have hreach2 : ∀ i, rcB n e F i = true → (Gr.mk n c2 e2 s2).reach i := fun i h => .from_ ((hs2 i (hlive i h)).2 h)
  have hinto : ∀ i, into e2 (Gr.mk n c2 e2 s2).reach n i = into e (fun k => rcB n e F k = true) n i := fun i => by
    rw [into_congr (Q := fun k => rcB n e F k = true) (fun k _ => ⟨hreach k, hreach2 k⟩) i]
    exact into_congrE (fun k hk hkl => by rw [he2 k hk, if_pos hkl]) i
  have houter : ∀ i, i < n → F i = true → (Gr.mk n c2 e2 s2).outer i := fun i hi hF => by
    have h1 : rcB n e F i = true := rcB_iff.2 (.from_ ⟨hi, hF⟩)
    refine ⟨hreach2 i h1, ?_⟩
    show ((into e2 (Gr.mk n c2 e2 s2).reach n i : Nat) : Int) < c2 i
    rw [hinto]
    exact hc2 i hi hF
  have hl : ∀ i, Rch e (fun k => k < n ∧ F k = true) i → (Gr.mk n c2 e2 s2).live i := fun i h => by
    induction h with
    | @from_ k hk => exact .from_ (houter k hk.1 hk.2)
    | @edge a b h hb ih =>
      have ha : rcB n e F a = true := rcB_iff.2 h
      refine .edge ih ?_
      show b ∈ e2 a
      rw [he2 a (hlive a ha), if_pos ha]
      exact hb
  rw [List.eq_nil_iff_forall_not_mem]
  intro i hm
  obtain ⟨_, h1, h2⟩ := Gr.mem_garb.1 hm
  exact h2 (hl i (rcB_iff.1 (hreach i h1)))
end
end Go.Proofs.Ytjmhlmohennknab
