/-
  The iterator over all values in one: its contract.
-/
import Derived.Test.YtplckmoeaeabgaaVwB
namespace Go.Proofs.Ytplckmoeaeabgaa
open Go Go.ChangeShapes Go.WideShapes Go.ChangeAt Go.RowKit Go.Shelf
attribute [local go_sem] Oper.semAt_some

/-- One of the values in a value. -/
abbrev Pv (v : Mv) := { x : Int × Mv // x ∈ walkM v 0 }
theorem val_inj {α : Type} {p : α → Prop} : ∀ {l l' : List { x : α // p x }}, l.map (·.1) = l'.map (·.1) → l = l'
  | [], [], _ => rfl
  | [], _ :: _, h => by simp at h
  | _ :: _, [], h => by simp at h
  | x :: l, y :: l', h => by
    simp only [List.map_cons, List.cons.injEq] at h
    rw [Subtype.ext h.1, val_inj h.2]
theorem val_le {α : Type} {p : α → Prop} {l l' : List { x : α // p x }} (h : l.map (·.1) <+: l'.map (·.1)) : l <+: l' := by
  obtain ⟨r, hr⟩ := h
  have hl : l.length ≤ l'.length := by have := congrArg List.length hr; simp at this; omega
  have : l = l'.take l.length := val_inj (by
    rw [List.map_take, ← hr, List.take_append_of_le_length (by simp), List.take_of_length_le (by simp)])
  rw [this]; exact List.take_prefix _ _
set_option maxRecDepth 100000 in
set_option maxHeartbeats 2000000 in
theorem values_stops (n A : Nat) (S : Nat → Prop) (v : Mv) (w : World) (hA : w.heap[A]? = some (.cells v.cells.toArray 24 (0, 0))) (hM : MS w S v) :
    SeqStopsK Fence.wide n Try.prog 41 #[.pointer (some ⟨A, 0, none⟩)] (fun x : Pv v => yargs x.1) (KQ S) (fun ys => ys = (walkM v 0).attach) (fun pre => pre <+: (walkM v 0).attach) (walkM v 0).length w := fun lp J Jx W hW hAJ _ hY h0 => by
  have hkq : KS S w W := KQ.ks (KQ.below hW)
  have hAW := (hW.block A (lt_of_heap hA)).trans hA
  have hMW := hM.ks hkq
  have hbox : W.heap[A]? = some (.cells #[.int .i64 v.k, .int .i64 v.n, .string (strI v.s), .slice v.a v.l.length v.c] 24 (0, 0)) := hAW
  have hwalk := walk_any n lp S (walkM v 0) (fun l W => ∃ l' : List (Pv v), l'.map (·.1) = l ∧ J l' W) (fun l W => ∃ l' : List (Pv v), l'.map (·.1) = l ∧ Jx l' W)
    (fun pre W W' ⟨l', h1, h2⟩ hg => ⟨l', h1, hAJ _ _ _ none h2 hg (fun r e => by cases e)⟩)
    (fun pre x W1 ⟨l', h1, h2⟩ hpre => by
      have hx : x ∈ walkM v 0 := hpre.subset (by simp)
      refine (hY l' ⟨x, hx⟩ W1 h2 (by have := hpre.length_le; rw [← h1] at this; simp at this; omega)).mono fun e W' h => ?_
      rcases h with ⟨h3, h4, h5⟩ | ⟨h3, h4⟩
      · exact .inl ⟨h3, ⟨_, by simp [h1], h4⟩, h5⟩
      · exact .inr ⟨h3, ⟨_, by simp [h1], h4⟩⟩) v 0 [] W hMW (by rw [List.nil_append]; exact List.prefix_refl _) ⟨[], rfl, h0⟩
  rw [List.nil_append] at hwalk
  obtain ⟨c0, c1, c2, c3⟩ := box_cells hbox
  have HW := hid hwalk
  simp only [Mv.cells] at HW
  clear hwalk hbox hMW hAW hkq hY h0 hAJ hW hA hM
  generalize v.k = vk at *
  generalize v.n = vn at *
  generalize strI v.s = vs at *
  generalize v.l.length = vl at *
  generalize v.a = va at *
  generalize v.c = vc at *
  refine callsIn_of_wp Try.func41 rfl trivial ?_ rfl
  simp only [Try.ntmps41, List.size_toArray, List.length_cons, List.length_nil, Nat.reduceAdd, Nat.reduceSub, Array.replicate_succ, Array.replicate_zero, List.push_toArray, List.append_toArray, List.nil_append, List.cons_append]
  gi_wp2_with fail
  refine ⟨trivial, (fun h => by cases h), (callsIn_wide.2 (callsIn_wide.1 HW.out)).mono ?_⟩
  rintro e W5 (⟨rfl, ⟨l', h1, h2⟩, _⟩ | ⟨rfl, pre, hpre, l', h1, h2⟩)
  · have hl : l' = (walkM v 0).attach := val_inj (h1.trans (List.attach_map_subtype_val _).symm)
    have HJ := hid h2
    have HL := hid hl
    clear h1 h2 hl
    gi_wp2
    go_end0
    exact ⟨⟨_, rfl⟩, .inl ⟨l', HL.out, HJ.out⟩⟩
  · have hl : l' <+: (walkM v 0).attach := val_le (by rw [h1, List.attach_map_subtype_val]; exact hpre)
    have HJ := hid h2
    have HL := hid hl
    clear h1 h2 hl hpre
    gi_wp2
    go_end0
    exact ⟨⟨_, rfl⟩, .inr ⟨l', HL.out, HJ.out⟩⟩
set_option maxRecDepth 100000 in
theorem values_any (w : World) (c0 c1 c2 c3 : Value) : Calls Try.prog 26 #[.agg #[c0, c1, c2, c3]] w fun e w' => e = .returned (.func (.func 41) #[] #[.pointer (some ⟨w.heap.size, 0, none⟩)]) ∧ w' = w.alloc (.cells #[c0, c1, c2, c3] 24) := by
  go_enter Try.func26, Try.ntmps26
  go_wp2
  go_ret
  exact ⟨rfl, rfl⟩
end Go.Proofs.Ytplckmoeaeabgaa
