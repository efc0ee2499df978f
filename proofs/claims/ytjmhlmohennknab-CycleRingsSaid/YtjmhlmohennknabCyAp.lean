/-
  The document's examples, plainly and as the laws ask them.
-/
import Derived.Test.YtjmhlmohennknabCyAw
namespace Go.Proofs.Ytjmhlmohennknab
open Go Go.ChangeShapes Go.WideShapes Go.ChangeAt Go.RowKit

theorem garb_two : (grS [1, 1] [[1], [0]] [0]).garb = [0, 1] := by
  have e0 : (grS [1, 1] [[1], [0]] [0]).e 0 = [1] := by decide
  have e1 : (grS [1, 1] [[1], [0]] [0]).e 1 = [0] := by decide
  have hs : (grS [1, 1] [[1], [0]] [0]).s 0 := by show 0 ∈ wi 2 [0]; decide
  have r0 : (grS [1, 1] [[1], [0]] [0]).reach 0 := .from_ hs
  have r1 : (grS [1, 1] [[1], [0]] [0]).reach 1 := .edge r0 (by rw [e0]; simp)
  have hi : ∀ i, i < 2 → into (grS [1, 1] [[1], [0]] [0]).e (grS [1, 1] [[1], [0]] [0]).reach 2 i = 1 := fun i hi => by
    unfold into into into
    rw [if_pos r0, if_pos r1, e0, e1]
    have : i = 0 ∨ i = 1 := by omega
    rcases this with rfl | rfl <;> rfl
  have hc : ∀ i, i < 2 → (grS [1, 1] [[1], [0]] [0]).c i = 1 := fun i hi => by
    have : i = 0 ∨ i = 1 := by omega
    rcases this with rfl | rfl <;> rfl
  have hl : ∀ i, ¬ (grS [1, 1] [[1], [0]] [0]).live i := fun i h => by
    refine h.in_ (P := fun _ => False) (fun k hk => ?_) (fun _ _ h _ => h)
    have h1 : k < 2 := Gr.reach_lt (grS_ok (by decide)) hk.1
    have h2 : ((into (grS [1, 1] [[1], [0]] [0]).e (grS [1, 1] [[1], [0]] [0]).reach 2 k : Nat) : Int) < _ := hk.2
    rw [hi k h1, hc k h1] at h2
    omega
  unfold Gr.garb
  show List.filter _ [0, 1] = _
  rw [List.filter_eq_self.2]
  intro i h
  simp at h
  rcases h with rfl | rfl
  · simp [r0, hl]
  · simp [r1, hl]
theorem garb_held : (grS [2, 1] [[1], [0]] [0]).garb = [] := by
  have e0 : (grS [2, 1] [[1], [0]] [0]).e 0 = [1] := by decide
  have e1 : (grS [2, 1] [[1], [0]] [0]).e 1 = [0] := by decide
  have hs : (grS [2, 1] [[1], [0]] [0]).s 0 := by show 0 ∈ wi 2 [0]; decide
  have r0 : (grS [2, 1] [[1], [0]] [0]).reach 0 := .from_ hs
  have hi : into (grS [2, 1] [[1], [0]] [0]).e (grS [2, 1] [[1], [0]] [0]).reach 2 0 ≤ 1 := by
    have h1 := into_mono (e := (grS [2, 1] [[1], [0]] [0]).e) (P := (grS [2, 1] [[1], [0]] [0]).reach) (Q := fun _ => True) (n := 2) (fun _ _ _ => trivial) 0
    have h2 : into (grS [2, 1] [[1], [0]] [0]).e (fun _ => True) 2 0 = 1 := by
      unfold into into into
      rw [if_pos trivial, if_pos trivial, e0, e1]
      rfl
    omega
  have o0 : (grS [2, 1] [[1], [0]] [0]).outer 0 := ⟨r0, by
    show ((into (grS [2, 1] [[1], [0]] [0]).e (grS [2, 1] [[1], [0]] [0]).reach 2 0 : Nat) : Int) < 2
    omega⟩
  have l0 : (grS [2, 1] [[1], [0]] [0]).live 0 := .from_ o0
  have l1 : (grS [2, 1] [[1], [0]] [0]).live 1 := .edge l0 (by rw [e0]; simp)
  rw [List.eq_nil_iff_forall_not_mem]
  intro i hm
  obtain ⟨h1, _, h2⟩ := Gr.mem_garb.1 hm
  have h3 : i < 2 := h1
  have : i = 0 ∨ i = 1 := by omega
  rcases this with rfl | rfl
  · exact h2 l0
  · exact h2 l1
/-- One graph of two nodes, with an edge to one another, laid by hand. -/
structure TwoW (w W : World) (gb : Nat) (x y : Int) : Prop where
  at_ : ∃ cv ev, W.heap[gb]? = some (.cells #[cv, ev] TGr (0, 0)) ∧ GrW W.heap.size W cv ev [x, y] [[1], [0]] ∧ (∃ ca cc ea ec, cv = .slice ca 2 cc ∧ ev = .slice ea 2 ec)
  bl : Below w.heap.size w W
theorem two_made (w : World) (x y : Int) (hx : 0 ≤ x ∧ x ≤ 4294967295) (hy : 0 ≤ y ∧ y ≤ 4294967295) :
    TwoW w (((((w.alloc (.cells #[.int .u32 x, .int .u32 y] 41)).alloc (.cells #[.int .i64 1] TI)).alloc (.cells #[.int .i64 0] TI)).alloc (.cells #[.slice (some ⟨w.heap.size + 1, 0, none⟩) 1 1, .slice (some ⟨w.heap.size + 1 + 1, 0, none⟩) 1 1] 26)).alloc
      (.cells #[.slice (some ⟨w.heap.size, 0, none⟩) 2 2, .slice (some ⟨w.heap.size + 1 + 1 + 1, 0, none⟩) 2 2] TGr)) (w.heap.size + 1 + 1 + 1 + 1) x y := by
  obtain ⟨w1, hw1⟩ : ∃ w1, w1 = w.alloc (.cells #[.int .u32 x, .int .u32 y] 41) := ⟨_, rfl⟩
  have a1 := heap_alloc_new w (.cells #[.int .u32 x, .int .u32 y] 41)
  rw [← hw1] at a1 ⊢
  have s1 : w1.heap.size = w.heap.size + 1 := by rw [hw1]; simp
  obtain ⟨w2, hw2⟩ : ∃ w2, w2 = w1.alloc (.cells #[.int .i64 1] TI) := ⟨_, rfl⟩
  have a2 := heap_alloc_new w1 (.cells #[.int .i64 1] TI)
  have a1b := hkeep (.cells #[.int .i64 1] TI) a1
  rw [← hw2] at a2 a1b ⊢
  have s2 : w2.heap.size = w.heap.size + 1 + 1 := by rw [hw2]; simp [s1]
  obtain ⟨w3, hw3⟩ : ∃ w3, w3 = w2.alloc (.cells #[.int .i64 0] TI) := ⟨_, rfl⟩
  have a3 := heap_alloc_new w2 (.cells #[.int .i64 0] TI)
  have a1c := hkeep (.cells #[.int .i64 0] TI) a1b
  have a2c := hkeep (.cells #[.int .i64 0] TI) a2
  rw [← hw3] at a3 a1c a2c ⊢
  have s3 : w3.heap.size = w.heap.size + 1 + 1 + 1 := by rw [hw3]; simp [s2]
  obtain ⟨o4, ho4⟩ : ∃ o4 : Obj, o4 = .cells #[.slice (some ⟨w.heap.size + 1, 0, none⟩) 1 1, .slice (some ⟨w.heap.size + 1 + 1, 0, none⟩) 1 1] 26 := ⟨_, rfl⟩
  rw [← ho4]
  obtain ⟨w4, hw4⟩ : ∃ w4, w4 = w3.alloc o4 := ⟨_, rfl⟩
  have a4 := heap_alloc_new w3 o4
  have a1d := hkeep o4 a1c
  have a2d := hkeep o4 a2c
  have a3d := hkeep o4 a3
  rw [← hw4] at a4 a1d a2d a3d ⊢
  have s4 : w4.heap.size = w.heap.size + 1 + 1 + 1 + 1 := by rw [hw4]; simp [s3]
  obtain ⟨o5, ho5⟩ : ∃ o5 : Obj, o5 = .cells #[.slice (some ⟨w.heap.size, 0, none⟩) 2 2, .slice (some ⟨w.heap.size + 1 + 1 + 1, 0, none⟩) 2 2] TGr := ⟨_, rfl⟩
  rw [← ho5]
  obtain ⟨w5, hw5⟩ : ∃ w5, w5 = w4.alloc o5 := ⟨_, rfl⟩
  have a5 := heap_alloc_new w4 o5
  have a1e := hkeep o5 a1d
  have a2e := hkeep o5 a2d
  have a3e := hkeep o5 a3d
  have a4e := hkeep o5 a4
  rw [← hw5] at a5 a1e a2e a3e a4e ⊢
  have s5 : w5.heap.size = w.heap.size + 1 + 1 + 1 + 1 + 1 := by rw [hw5]; simp [s4]
  rw [s1] at a2e
  rw [s2] at a3e
  rw [s3, ho4] at a4e
  rw [s4, ho5] at a5
  refine ⟨⟨_, _, a5, ⟨⟨some ⟨w.heap.size, 0, none⟩, 2, rfl, Nat.le_refl _, by omega, fun _ => ⟨w.heap.size, 0, rfl, by omega, fun j z hz => ?_⟩⟩, ⟨some ⟨w.heap.size + 1 + 1 + 1, 0, none⟩, 2, rfl, Nat.le_refl _, by omega, fun _ => ⟨w.heap.size + 1 + 1 + 1, 0, rfl, by omega, fun j l hl => ?_⟩⟩, fun c hc => ?_, fun l hl z hz => ?_⟩, _, _, _, _, rfl, rfl⟩, ?_⟩
  · rw [cell_of_row _ _ _ _ _ _ a1e]
    match j, hz with
    | 0, hz => simp at hz; subst hz; rfl
    | 1, hz => simp at hz; subst hz; rfl
    | j + 2, hz => simp at hz
  · rw [cell_of_row _ _ _ _ _ _ a4e]
    have one : ∀ (b : Nat) (u : Int), w5.heap[b]? = some (.cells #[.int .i64 u] TI (0, 0)) → Tl iv w5.heap.size w5 (.slice (some ⟨b, 0, none⟩) 1 1) [u] := fun b u hb => ⟨some ⟨b, 0, none⟩, 1, rfl, Nat.le_refl _, by omega, fun _ => ⟨b, 0, rfl, (Array.getElem?_eq_some_iff.1 hb).1, fun j z hz => by
      rw [cell_of_row _ _ _ _ _ _ hb]
      match j, hz with
      | 0, hz => simp at hz; subst hz; rfl
      | j + 1, hz => simp at hz⟩⟩
    match j, hl with
    | 0, hl => simp at hl; subst hl; exact ⟨_, rfl, one _ _ a2e⟩
    | 1, hl => simp at hl; subst hl; exact ⟨_, rfl, one _ _ a3e⟩
    | j + 2, hl => simp at hl
  · simp at hc
    rcases hc with rfl | rfl
    · exact hx
    · exact hy
  · simp at hl
    rcases hl with rfl | rfl
    · simp at hz; subst hz; unfold I64b; omega
    · simp at hz; subst hz; unfold I64b; omega
  · rw [hw5, hw4, hw3, hw2, hw1]
    exact (((((Below.refl _ _).alloc (Nat.le_refl _) _).alloc (by simp) _).alloc (by simp; omega) _).alloc (by simp; omega) _).alloc (by simp; omega) _
end Go.Proofs.Ytjmhlmohennknab
