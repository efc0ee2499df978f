/-
  The plain twin's list: counts by rising keys, noughts among them. No program.
-/
import Derived.Test.YtmmmjkmhlkkdkaaTlM
namespace Go.Proofs.Ytmmmjkmhlkkdkaa
open Go

def ltM (R : TM) (k : Int) : TM := R.filter fun p => decide (p.1 < k)
def gtM (R : TM) (k : Int) : TM := R.filter fun p => decide (k < p.1)
def setR (R : TM) (k c : Int) : TM := ltM R k ++ (k, c) :: gtM R k
def nz (R : TM) : TM := R.filter fun p => decide (0 < p.2)
theorem ltM_mem {R : TM} {k : Int} {p : Int × Int} (h : p ∈ ltM R k) : p ∈ R ∧ p.1 < k := by simpa [ltM, List.mem_filter] using h
theorem gtM_mem {R : TM} {k : Int} {p : Int × Int} (h : p ∈ gtM R k) : p ∈ R ∧ k < p.1 := by simpa [gtM, List.mem_filter] using h
theorem ltM_append (A B : TM) (k : Int) : ltM (A ++ B) k = ltM A k ++ ltM B k := by simp [ltM]
theorem gtM_append (A B : TM) (k : Int) : gtM (A ++ B) k = gtM A k ++ gtM B k := by simp [gtM]
theorem ltM_all {A : TM} {k : Int} (h : ∀ p ∈ A, p.1 < k) : ltM A k = A := by
  unfold ltM; rw [List.filter_eq_self]; intro p hp; simpa using h p hp
theorem ltM_none {A : TM} {k : Int} (h : ∀ p ∈ A, k ≤ p.1) : ltM A k = [] := by
  unfold ltM; rw [List.filter_eq_nil_iff]; intro p hp; have := h p hp; simp; omega
theorem gtM_all {A : TM} {k : Int} (h : ∀ p ∈ A, k < p.1) : gtM A k = A := by
  unfold gtM; rw [List.filter_eq_self]; intro p hp; simpa using h p hp
theorem gtM_none {A : TM} {k : Int} (h : ∀ p ∈ A, p.1 ≤ k) : gtM A k = [] := by
  unfold gtM; rw [List.filter_eq_nil_iff]; intro p hp; have := h p hp; simp; omega
theorem Rising.setR {R : TM} (h : Rising R) (k c : Int) : Rising (setR R k c) := by
  unfold Go.Proofs.Ytmmmjkmhlkkdkaa.setR Rising
  rw [List.pairwise_append]
  refine ⟨List.Pairwise.sublist List.filter_sublist h, ?_, ?_⟩
  · rw [List.pairwise_cons]
    exact ⟨fun p hp => (gtM_mem hp).2, List.Pairwise.sublist List.filter_sublist h⟩
  · intro a ha b hb
    have h1 := (ltM_mem ha).2
    rcases List.mem_cons.1 hb with rfl | hb
    · exact h1
    · have := (gtM_mem hb).2; omega
theorem ltM_setR (R : TM) (k c : Int) : ltM (setR R k c) k = ltM R k := by
  unfold setR
  rw [ltM_append, ltM_all (fun p hp => (ltM_mem hp).2), ltM_none (A := (k, c) :: gtM R k), List.append_nil]
  intro p hp
  rcases List.mem_cons.1 hp with rfl | hp
  · exact Int.le_refl _
  · have := (gtM_mem hp).2; omega
theorem gtM_setR (R : TM) (k c : Int) : gtM (setR R k c) k = gtM R k := by
  unfold setR
  rw [gtM_append, gtM_none (fun p hp => by have := (ltM_mem hp).2; omega), List.nil_append]
  have e : (k, c) :: gtM R k = [(k, c)] ++ gtM R k := rfl
  rw [e, gtM_append, gtM_none (A := [(k, c)]) (fun p hp => by simp at hp; subst hp; exact Int.le_refl _), List.nil_append, gtM_all (fun p hp => (gtM_mem hp).2)]
theorem setR_setR (R : TM) (k c d : Int) : setR (setR R k c) k d = setR R k d := by
  have e1 := ltM_setR R k c
  have e2 := gtM_setR R k c
  show ltM (setR R k c) k ++ (k, d) :: gtM (setR R k c) k = _
  rw [e1, e2]
  rfl
theorem get_setR (R : TM) (k c : Int) : getM (setR R k c) k = c := by
  have : (setR R k c).find? (fun p => p.1 == k) = some (k, c) := by
    unfold setR
    rw [List.find?_append, List.find?_eq_none.2 (fun p hp => by have := (ltM_mem hp).2; simp; omega)]
    simp
  unfold getM
  rw [this]
theorem setR_at (R : TM) (k c : Int) : (setR R k c)[(ltM R k).length]? = some (k, c) := by
  unfold setR
  rw [List.getElem?_append_right (Nat.le_refl _)]
  simp
theorem setR_set (R : TM) (k c d : Int) : (setR R k c).set (ltM R k).length (k, d) = setR R k d := by
  unfold setR
  rw [List.set_append_right _ _ (Nat.le_refl _)]
  simp
/-- Where a key stands, or would stand. -/
theorem place {A B : TM} {k : Int} (h : Rising (A ++ B)) (hA : ∀ p ∈ A, p.1 < k) (hB : ∀ p ∈ B.head?, k ≤ p.1) :
    ltM (A ++ B) k = A ∧ ((∃ c B', B = (k, c) :: B' ∧ c = getM (A ++ B) k ∧ gtM (A ++ B) k = B') ∨ ((∀ p ∈ B, k < p.1) ∧ gtM (A ++ B) k = B ∧ getM (A ++ B) k = 0)) := by
  have hBr : Rising B := (List.pairwise_append.1 h).2.1
  have hge : ∀ p ∈ B, k ≤ p.1 := fun p hp => by
    cases B with
    | nil => cases hp
    | cons z r =>
      have hz := hB z (by simp)
      rcases List.mem_cons.1 hp with rfl | hp
      · exact hz
      · have := (List.pairwise_cons.1 hBr).1 p hp; omega
  refine ⟨by rw [ltM_append, ltM_all hA, ltM_none hge, List.append_nil], ?_⟩
  have hg : gtM (A ++ B) k = gtM B k := by rw [gtM_append, gtM_none (fun p hp => by have := hA p hp; omega), List.nil_append]
  cases B with
  | nil => exact .inr ⟨(fun p hp => by cases hp), by rw [hg]; rfl, get_none fun p hp => by have := hA p (by simpa using hp); omega⟩
  | cons z r =>
    obtain ⟨zk, zc⟩ := z
    have hlt := (List.pairwise_cons.1 hBr).1
    by_cases e : zk = k
    · subst e
      refine .inl ⟨zc, r, rfl, (get_of_mem h (p := (zk, zc)) (by simp)).symm, ?_⟩
      rw [hg]
      have e2 : (zk, zc) :: r = [(zk, zc)] ++ r := rfl
      rw [e2, gtM_append, gtM_none (A := [(zk, zc)]) (fun p hp => by simp at hp; subst hp; exact Int.le_refl _), List.nil_append, gtM_all (fun p hp => hlt p hp)]
    · have hz := hge (zk, zc) (by simp)
      have hall : ∀ p ∈ (zk, zc) :: r, k < p.1 := fun p hp => by
        rcases List.mem_cons.1 hp with rfl | hp
        · simp at hz ⊢; omega
        · have := hlt p hp; simp at this hz; omega
      refine .inr ⟨hall, by rw [hg, gtM_all hall], get_none fun p hp => ?_⟩
      rcases List.mem_append.1 hp with hp | hp
      · have := hA p hp; omega
      · have := hall p hp; omega

theorem cut_split {l : TM} (h : Rising l) (k : Int) : cut l k = ltM l k ++ gtM l k := by
  induction l with
  | nil => rfl
  | cons z r ih =>
    obtain ⟨h1, h2⟩ := List.pairwise_cons.1 h
    have ih := ih h2
    by_cases c1 : z.1 < k
    · have e1 : cut (z :: r) k = z :: cut r k := by unfold cut; rw [List.filter_cons_of_pos (by simp; omega)]
      have e2 : ltM (z :: r) k = z :: ltM r k := by unfold ltM; rw [List.filter_cons_of_pos (by simpa using c1)]
      have e3 : gtM (z :: r) k = gtM r k := by unfold gtM; rw [List.filter_cons_of_neg (by simp; omega)]
      rw [e1, e2, e3, ih]; rfl
    · have e2 : ltM (z :: r) k = [] := ltM_none fun p hp => by
        rcases List.mem_cons.1 hp with rfl | hp
        · omega
        · have := h1 p hp; omega
      have e2' : ltM r k = [] := ltM_none fun p hp => by have := h1 p hp; omega
      by_cases c2 : z.1 = k
      · have e1 : cut (z :: r) k = cut r k := by unfold cut; rw [List.filter_cons_of_neg (by simp [c2])]
        have e3 : gtM (z :: r) k = gtM r k := by unfold gtM; rw [List.filter_cons_of_neg (by simp; omega)]
        rw [e1, e2, e3, ih, e2']
      · have e1 : cut (z :: r) k = z :: cut r k := by unfold cut; rw [List.filter_cons_of_pos (by simp; omega)]
        have e3 : gtM (z :: r) k = z :: gtM r k := by unfold gtM; rw [List.filter_cons_of_pos (by simp; omega)]
        rw [e1, e2, e3, ih, e2']; rfl
theorem lay_split (k c : Int) : ∀ (A B : TM), (∀ p ∈ A, p.1 < k) → (∀ p ∈ B, k < p.1) → lay (k, c) (A ++ B) = A ++ (k, c) :: B
  | [], B, _, hB => by
    cases B with
    | nil => rfl
    | cons z r =>
      simp only [List.nil_append]
      unfold lay
      rw [if_pos (hB z (by simp))]
  | a :: A, B, hA, hB => by
    simp only [List.cons_append]
    unfold lay
    rw [if_neg (by have := hA a (by simp); simp; omega), lay_split k c A B (fun p hp => hA p (by simp [hp])) hB]
theorem filter_comm {α : Type} (f g : α → Bool) (l : List α) : (l.filter f).filter g = (l.filter g).filter f := by
  rw [List.filter_filter, List.filter_filter]
  exact List.filter_congr fun a _ => Bool.and_comm _ _
theorem nz_set {R : TM} (h : Rising R) (k c : Int) (h0 : 0 ≤ c) : nz (setR R k c) = setM (nz R) k c := by
  have hr : Rising (nz R) := List.Pairwise.sublist List.filter_sublist h
  have e1 : nz (ltM R k) = ltM (nz R) k := filter_comm _ _ _
  have e2 : nz (gtM R k) = gtM (nz R) k := filter_comm _ _ _
  have e3 : nz (setR R k c) = nz (ltM R k) ++ (if 0 < c then (k, c) :: nz (gtM R k) else nz (gtM R k)) := by
    unfold setR nz
    rw [List.filter_append, List.filter_cons]
    congr 1
    by_cases hc : 0 < c <;> simp [hc]
  rw [e3, e1, e2]
  unfold setM
  by_cases hc : c = 0
  · rw [if_pos hc, if_neg (by omega), cut_split hr]
  · rw [if_neg hc, if_pos (by omega)]
    unfold putM
    rw [cut_split hr, lay_split _ _ _ _ (fun p hp => (ltM_mem hp).2) (fun p hp => (gtM_mem hp).2)]
theorem nz_get {R : TM} (h : Rising R) (h0 : ∀ p ∈ R, 0 ≤ p.2) (k : Int) : getM (nz R) k = getM R k := by
  have hr : Rising (nz R) := List.Pairwise.sublist List.filter_sublist h
  rcases get_mem (l := R) (k := k) with e | e
  · rw [e]
    rcases get_mem (l := nz R) (k := k) with e2 | e2
    · exact e2
    · have h1 := List.mem_filter.1 e2
      have h2 := get_of_mem h h1.1
      simp only at h2
      rw [e] at h2
      have := h1.2
      simp at this; omega
  · by_cases hp : 0 < getM R k
    · have : (k, getM R k) ∈ nz R := List.mem_filter.2 ⟨e, by simpa using hp⟩
      exact get_of_mem hr this
    · have h1 := h0 _ e
      simp at h1
      have hz : getM R k = 0 := by omega
      rw [hz]
      rcases get_mem (l := nz R) (k := k) with e2 | e2
      · exact e2
      · have h3 := List.mem_filter.1 e2
        have h2 := get_of_mem h h3.1
        simp only at h2
        have := h3.2
        simp at this; omega
theorem setR_len (R : TM) (k c : Int) (h : Rising R) : (setR R k c).length ≤ R.length + 1 := by
  have h1 := cut_split h k
  have h2 : (cut R k).length ≤ R.length := List.length_filter_le _ _
  rw [h1, List.length_append] at h2
  unfold setR
  rw [List.length_append, List.length_cons]
  omega
end Go.Proofs.Ytmmmjkmhlkkdkaa
