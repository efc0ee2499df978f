/-
  Rows that were made, each cell told by a function of its place; what a turn of the plain closure keeps; the contract of the plain Edges.
-/
import Derived.Test.YtjmhlmohennknabCyC
namespace Go.Proofs.Ytjmhlmohennknab
open Go Go.ChangeShapes Go.WideShapes Go.ChangeAt Go.RowKit

theorem PI.from_ {w w1 w2 : World} {v : Value} {xs : List Nat} (h : PI w1 w2 v xs) (hb : Below w.heap.size w w1) : PI w w2 v xs := ⟨owns_low h.1 hb.size, hb.trans (h.2.mono hb.size)⟩
/-- A function's first values. -/
def fL {α : Type} (n : Nat) (f : Nat → α) : List α := (List.range n).map f
theorem fL_len {α : Type} (n : Nat) (f : Nat → α) : (fL n f).length = n := by simp [fL]
theorem fL_at {α : Type} {n : Nat} {f : Nat → α} {i : Nat} (h : i < n) : (fL n f)[i]? = some (f i) := by
  unfold fL
  rw [List.getElem?_map, List.getElem?_range h]
  rfl
theorem fL_congr {α : Type} {n : Nat} {f f' : Nat → α} (h : ∀ i, i < n → f i = f' i) : fL n f = fL n f' := List.map_congr_left fun i hi => h i (List.mem_range.1 hi)
theorem fL_set {α : Type} {n : Nat} {f : Nat → α} {j : Nat} {y : α} : (fL n f).set j y = fL n (upd f j y) := by
  refine List.ext_getElem? fun i => ?_
  rw [List.getElem?_set]
  by_cases h : i < n
  · rw [fL_at h, fL_at h]
    by_cases hij : j = i
    · subst hij; simp [upd_same, fL_len, h]
    · rw [if_neg hij, upd_other (fun e => hij e.symm)]
  · have h1 : (fL n f)[i]? = none := List.getElem?_eq_none (by rw [fL_len]; omega)
    have h2 : (fL n (upd f j y))[i]? = none := List.getElem?_eq_none (by rw [fL_len]; omega)
    rw [h1, h2, fL_len]
    split
    · rename_i hij; rw [if_neg (by omega)]
    · rfl
/-- A row that was made, whole. -/
def BF {α : Type} (T : TypeId) (f : α → Value) (W : World) (b n : Nat) (F : Nat → α) : Prop := W.heap[b]? = some (.cells ((fL n F).map f).toArray T (0, 0))
section
variable {α : Type} {T : TypeId} {f : α → Value} {W W' : World} {b n : Nat} {F F' : Nat → α}
theorem BF.lt (h : BF T f W b n F) : b < W.heap.size := (Array.getElem?_eq_some_iff.1 h).1
theorem BF.cell (h : BF T f W b n F) {i : Nat} (hi : i < n) : W.cell? ⟨b, i, none⟩ = some (f (F i)) := by
  rw [cell_of_row _ _ _ _ _ _ h]
  simp [fL_at hi]
theorem BF.fz (h : BF T f W b n F) (i : Nat) : W.frozen? ⟨b, i, none⟩ = false := frozen_of_row _ _ _ _ _ h
theorem BF.set (h : BF T f W b n F) (j : Nat) (y : α) : BF T f (W.setCell ⟨b, j, none⟩ (f y)) b n (upd F j y) := by
  unfold BF
  rw [heap_setCell_same _ _ _ _ _ _ h, ← fL_set, List.map_set]
  simp
theorem BF.congr (h : BF T f W b n F) (hc : ∀ i, i < n → F i = F' i) : BF T f W b n F' := by
  unfold BF at h ⊢
  rw [fL_congr (fun i hi => (hc i hi).symm)]
  exact h
theorem BF.below (h : BF T f W b n F) (hB : Below W.heap.size W W') : BF T f W' b n F := (hB.block b h.lt).trans h
theorem BF.told (h : BF T f W b n F) (hn : n ≤ 9223372036854775807) : Tl f W.heap.size W (.slice (some ⟨b, 0, none⟩) n n) (fL n F) := by
  refine ⟨some ⟨b, 0, none⟩, n, by rw [fL_len], by rw [fL_len]; exact Nat.le_refl _, hn, fun _ => ⟨b, 0, rfl, h.lt, fun j x hx => ?_⟩⟩
  have hj := (List.getElem?_eq_some_iff.1 hx).1
  rw [fL_len] at hj
  rw [Nat.zero_add, h.cell hj]
  rw [fL_at hj] at hx
  cases hx
  rfl
theorem BF.made (W : World) (n : Nat) (y : α) : BF T f (W.alloc (.cells (madeCells #[f y] n) T)) W.heap.size n (fun _ => y) := by
  unfold BF
  rw [heap_alloc_new]
  congr 2
  apply Array.ext_getElem?
  intro i
  by_cases hi : i < n
  · rw [made_at hi (by simp)]
    have : i % 1 = 0 := Nat.mod_one i
    simp [fL_at hi, this]
  · rw [Array.getElem?_eq_none (by rw [size_madeCells]; omega), Array.getElem?_eq_none (by simp [fL_len]; omega)]
end
/-- How many are true. -/
def cnt (n : Nat) (f : Nat → Bool) : Nat :=
  match n with
  | 0 => 0
  | n + 1 => cnt n f + if f n then 1 else 0
theorem cnt_le (n : Nat) (f : Nat → Bool) : cnt n f ≤ n := by
  induction n with
  | zero => exact Nat.le_refl _
  | succ n ih => unfold cnt; split <;> omega
theorem cnt_all {n : Nat} {f : Nat → Bool} (h : n ≤ cnt n f) : ∀ i, i < n → f i = true := by
  induction n with
  | zero => intro i hi; omega
  | succ n ih =>
    unfold cnt at h
    have h1 := cnt_le n f
    intro i hi
    by_cases hf : f n = true
    · rw [if_pos hf] at h
      by_cases hin : i = n
      · rw [hin]; exact hf
      · exact ih (by omega) i (by omega)
    · rw [if_neg hf] at h; omega
theorem cnt_congr {n : Nat} {f f' : Nat → Bool} (h : ∀ i, i < n → f i = f' i) : cnt n f = cnt n f' := by
  induction n with
  | zero => rfl
  | succ n ih => unfold cnt; rw [ih (fun i hi => h i (by omega)), h n (by omega)]
theorem cnt_upd {n j : Nat} {f : Nat → Bool} (hj : j < n) (h : f j = false) : cnt n (upd f j true) = cnt n f + 1 := by
  induction n with
  | zero => omega
  | succ n ih =>
    unfold cnt
    by_cases hjn : j = n
    · subst hjn
      rw [cnt_congr (f' := f) (fun i hi => upd_other (by omega)), upd_same, h]
      simp
    · rw [ih (by omega), upd_other (fun e => hjn e.symm)]
      omega
/-- A turn of the plain closure, under way: mb: did anything turn? -/
structure TuI (n : Nat) (e : Nat → List Nat) (F f0 : Nat → Bool) (mb : Bool) (f : Nat → Bool) (i : Nat) (l : List Nat) : Prop where
  sub : ∀ j, j < n → F j = true → f j = true
  rc : ∀ j, j < n → f j = true → Rch e (fun k => k < n ∧ F k = true) j
  up : cnt n f0 ≤ cnt n f
  tr : mb = true → cnt n f0 < cnt n f
  fa : mb = false → (∀ k, k < i → k < n → f k = true → ∀ j ∈ e k, f j = true) ∧ ∀ j ∈ l, f j = true
section
variable {n : Nat} {e : Nat → List Nat} {F f0 f : Nat → Bool} {mb : Bool} {i : Nat} {l : List Nat}
/-- What is to be had already. -/
theorem TuI.have_ (h : TuI n e F f0 mb f i l) {j : Nat} (hj : f j = true) : TuI n e F f0 mb f i (l ++ [j]) :=
  ⟨h.sub, h.rc, h.up, h.tr, fun k => ⟨(h.fa k).1, fun x hx => by
    rcases List.mem_append.1 hx with hx | hx
    · exact (h.fa k).2 x hx
    · simp at hx; rw [hx]; exact hj⟩⟩
/-- One more. -/
theorem TuI.take_ (h : TuI n e F f0 mb f i l) (hi : i < n) (hfi : f i = true) {j : Nat} (hje : j ∈ e i) (hj : j < n) (hf : f j = false) {l' : List Nat} : TuI n e F f0 true (upd f j true) i l' := by
  have hc := cnt_upd hj hf
  refine ⟨fun k hk hF => ?_, fun k hk hk2 => ?_, by have := h.up; omega, fun _ => by have := h.up; omega, fun k => by cases k⟩
  · by_cases hkj : k = j
    · rw [hkj, upd_same]
    · rw [upd_other hkj]; exact h.sub k hk hF
  · by_cases hkj : k = j
    · rw [hkj]; exact .edge (h.rc i hi hfi) hje
    · rw [upd_other hkj] at hk2; exact h.rc k hk hk2
theorem TuI.next (h : TuI n e F f0 mb f i l) (hl : f i = true → l = e i) : TuI n e F f0 mb f (i + 1) [] :=
  ⟨h.sub, h.rc, h.up, h.tr, fun k => ⟨fun x hx hxn hfx j hj => by
    by_cases hxi : x = i
    · subst hxi
      exact (h.fa k).2 j (by rw [hl hfx]; exact hj)
    · exact (h.fa k).1 x (by omega) hxn hfx j hj, fun _ hx => by cases hx⟩⟩
/-- Nothing has turned: it is closed. -/
theorem TuI.done (h : TuI n e F f0 false f i l) (hi : n ≤ i) (he : ∀ k, ∀ j ∈ e k, j < n) {j : Nat} (hj : j < n) : f j = true ↔ Rch e (fun k => k < n ∧ F k = true) j := by
  refine ⟨h.rc j hj, fun hr => ?_⟩
  have := hr.in_ (P := fun j => j < n ∧ f j = true) (fun k hk => ⟨hk.1, h.sub k hk.1 hk.2⟩) (fun a b ha hb => ⟨he a b hb, (h.fa rfl).1 a (by omega) ha.1 ha.2 b hb⟩)
  exact this.2
/-- All are had. -/
theorem TuI.full (h : TuI n e F f0 mb f i l) (hn : n ≤ cnt n f) {j : Nat} (hj : j < n) : f j = true ↔ Rch e (fun k => k < n ∧ F k = true) j :=
  ⟨h.rc j hj, fun _ => cnt_all hn j hj⟩
end
open Classical in
/-- What is come to, as truths. -/
noncomputable def rcB (n : Nat) (e : Nat → List Nat) (F : Nat → Bool) (j : Nat) : Bool := decide (Rch e (fun k => k < n ∧ F k = true) j)
theorem rcB_iff {n : Nat} {e : Nat → List Nat} {F : Nat → Bool} {j : Nat} : rcB n e F j = true ↔ Rch e (fun k => k < n ∧ F k = true) j := by
  unfold rcB
  simp
theorem rcB_of {n : Nat} {e : Nat → List Nat} {F f : Nat → Bool} (h : ∀ j, j < n → (f j = true ↔ Rch e (fun k => k < n ∧ F k = true) j)) : ∀ j, j < n → f j = rcB n e F j := fun j hj => by
  rw [Bool.eq_iff_iff, h j hj]
  exact rcB_iff.symm
end Go.Proofs.Ytjmhlmohennknab
