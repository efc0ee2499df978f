/-
  XSureA's law inside the wide fence: a region that draws its order, of operations whose values are known, with one block made among them and a last operation that waits for all.
-/
import Derived.Test.YtcoclaabainibaaDoorSureA
import Derived.Test.YtcoclaabainibaaDoorMixE
import Derived.BigFrameIn
import Derived.AtR
namespace Go.Proofs.YtcoclaabainibaaDoor.AI
open Go Go.Proofs.YtcoclaabainibaaDoor Go.Proofs.YtcoclaabainibaaDoor.A Go.ChangeShapes Go.WideShapes Go.ChangeAt Go.RowKit

section
variable {P : Program} {ops : Array Oper} {md : Region.Mode} {S : World → Prop} {p q n : Nat}
theorem wpOp_of_suOp {i : Nat} {s : Option Nat} {a : Act} {w : World} {K : Option Nat → Act → Prop} {K' : Act → World → Prop} {Q' : Exit → Act → World → Prop} {T : Nat → World → Prop} {op : Oper} (hp : ops[p]? = some op) (hgp : op.guard = none)
    (hT : ∀ g w w', T g w → Fr (fun _ => False) w w' → T g w')
    (hal : ∀ (a : Act) w, S w → ∃ w', (execOp a.eval op).run P w = .ok (.value (.pointer (some ⟨w.heap.size, 0, none⟩))) w' ∧ S w' ∧ T w.heap.size w')
    (hS : S w) (hs : ∀ g, s = some g → T g w) (h : ∀ s a w, K s a → S w → (∀ g, s = some g → T g w) → K' a w) (hh : A.suOp P ops S p i K s a) : wpOpIn Fence.wide n P ops Q' i K' a w := by
  unfold A.suOp at hh
  unfold wpOpIn
  split
  · rename_i ho; simp only [ho] at hh; exact h _ _ _ hh hS hs
  · rename_i o ho
    simp only [ho] at hh
    by_cases e : i = p
    · subst e
      rw [hp] at ho; cases ho
      rw [if_pos rfl] at hh
      have hw : Region.wanted op (yielded ops a.tmps) = true := by unfold Region.wanted; rw [hgp]
      rw [if_pos hw]
      obtain ⟨w', hr, hS', hT'⟩ := hal a w hS
      refine ⟨fun _ _ => trivial, ?_⟩
      show op.uponIn Fence.wide n P a _ _ ((execOp a.eval op).run P w)
      rw [hr]
      exact h _ _ _ (hh w.heap.size) hS' (fun g hg => by cases hg; exact hT')
    · rw [if_neg e] at hh
      obtain ⟨v, hy0, hk⟩ := hh
      have hy1 := hy0 w
      have next : ∀ w', S w' → Fr (fun _ => False) w w' → K' (a.put o.dst v) w' := fun w' hS' hF => h _ _ _ hk hS' (fun g hg => hT g w w' (hs g hg) hF)
      rcases hy1 with ⟨hw, hy⟩ | ⟨hw, rfl⟩
      · rw [if_pos hw]
        refine ⟨fun _ _ => trivial, ?_⟩
        show o.uponIn Fence.wide n P a _ _ ((execOp a.eval o).run P w)
        rcases hy w ⟨hS, Fr.refl _ _⟩ with ⟨w', hr, hS', hF⟩ | ⟨w', hr, rfl, hS', hF⟩ | ⟨f, args, w', hr, hc⟩
        · rw [hr]; exact next w' hS' hF
        · rw [hr]; exact next w' hS' hF
        · rw [hr]
          exact ⟨(fun h => by cases h), callsIn_wide.2 (hc.mono fun e w'' ⟨he, hw', hF⟩ => by subst he; exact next w'' hw' hF)⟩
      · rw [if_neg (by rw [hw]; decide)]
        exact ⟨fun _ _ => trivial, next w hS (Fr.refl _ _)⟩
theorem wpAny_of_A {Q : Nat → Act → Prop} {Q' : Exit → Act → World → Prop} {T : Nat → World → Prop} {op : Oper} (hp : ops[p]? = some op) (hgp : op.guard = none)
    (hT : ∀ g w w', T g w → Fr (fun _ => False) w w' → T g w')
    (hal : ∀ (a : Act) w, S w → ∃ w', (execOp a.eval op).run P w = .ok (.value (.pointer (some ⟨w.heap.size, 0, none⟩))) w' ∧ S w' ∧ T w.heap.size w')
    (hQ : ∀ g a w, Q g a → S w → T g w → wpOpIn Fence.wide n P ops Q' q (fun a' w' => Q' .normal a' w') a w) : ∀ (fuel : Nat) (listed : Array Bool) (s : Option Nat) (a : Act) (w : World), S w → (∀ g, s = some g → T g w) →
    wpAnyA P md ops S p q Q fuel listed s a → wpAnyIn Fence.wide n P md ops Q' (fuel + 1) listed a w
  | 0, listed, s, a, w, hS, hs, h => by
    unfold wpAnyA at h
    obtain ⟨h1, h2, g, rfl, hg⟩ := h
    refine ⟨fun h0 => (by rw [h1] at h0; cases h0), fun i hi => ?_⟩
    rw [h1] at hi
    simp only [List.mem_singleton] at hi
    subst hi
    refine wpOpIn_mono (fun a' w' hq => ⟨h2, hq⟩) (hQ g a w hg hS (hs g rfl))
  | fuel + 1, listed, s, a, w, hS, hs, h => by
    refine ⟨fun h0 => ?_, fun i hi => ?_⟩
    · have h1 := h.1
      obtain ⟨i, hi⟩ := h1
      rw [h0] at hi; cases hi
    · exact wpOp_of_suOp hp hgp hT hal hS hs (fun s' a' w' hk hS' hs' => wpAny_of_A hp hgp hT hal hQ fuel _ s' a' w' hS' hs' hk) (h.2 i hi).2
/-- THE LAW. -/
theorem wp_region_new' {id : Nat} {Q : Exit → Act → World → Prop} {a : Act} {w : World} {l : List Oper} (m : Nat) (op oq : Oper) (hn : l.drop m = [op, oq]) (S : World → Prop) (T : Nat → World → Prop) (hm : P.follows .mixedOrders = true)
    (hB : (Region.lexB .any l.toArray && lastB .any l.toArray (m + 1)) = true) (hgp : op.guard = none) (hgq : oq.guard = none) (hS : S w.drew)
    (hT : ∀ g w w', T g w → Fr (fun _ => False) w w' → T g w')
    (hal : ∀ (a : Act) w, S w → ∃ w', (execOp a.eval op).run P w = .ok (.value (.pointer (some ⟨w.heap.size, 0, none⟩))) w' ∧ S w' ∧ T w.heap.size w')
    (h : A.wpSure P l.toArray S (fun a' => ∀ g w', S w' → T g w' → wpListIn Fence.wide n P l.toArray Q [oq] (a'.put op.dst (.pointer (some ⟨g, 0, none⟩))) w') (l.take m) a) : (Code.region id l.toArray true).wpIn Fence.wide n P Q a w := by
  have e : l = l.take m ++ [op, oq] := by rw [← hn, List.take_append_drop]
  have hlen : (l.take m).length = m := by
    rw [List.length_take]
    have := congrArg List.length hn
    rw [List.length_drop] at this
    simp at this; omega
  generalize l.take m = l1 at *
  subst e
  subst hlen
  simp only [Region.lexB, Bool.and_eq_true] at hB
  obtain ⟨⟨hns, hlx⟩, hla⟩ := hB
  have hp : (l1 ++ [op, oq]).toArray[l1.length]? = some op := by simp
  have hq : (l1 ++ [op, oq]).toArray[l1.length + 1]? = some oq := by simp
  refine wpIn_region_any hm ?_
  have hsz : (l1 ++ [op, oq]).toArray.size = (l1.length + 1) + 1 := by simp
  rw [hsz] at hlx ⊢
  refine wpAny_of_A (p := l1.length) (q := l1.length + 1) (S := S) (T := T) (Q := fun g a' => ∀ w', S w' → T g w' → wpListIn Fence.wide n P (l1 ++ [op, oq]).toArray Q [oq] a' w') hp hgp hT hal (fun g a' w' hq1 hS' hT' => ?_) (l1.length + 1) _ none a w.drew hS (fun g hg => by cases hg) ?_
  · have h1 := hq1 w' hS' hT'
    unfold wpOpIn
    simp only [hq]
    have hw : Region.wanted oq (yielded (l1 ++ [op, oq]).toArray a'.tmps) = true := by unfold Region.wanted; rw [hgq]
    rw [if_pos hw]
    unfold wpListIn at h1
    rw [if_pos hw] at h1
    exact h1
  · exact wpAnyA_lex hns hla hp hq rfl l1 0 _ a (fun j hj => by
      rw [Nat.zero_add, List.getElem?_toArray, List.getElem?_append_left hj]) (by omega) hlx (by
      exact A.wpSure_mono (fun a' h1 g w' => h1 g w') l1 a h)
end
section
variable {n : Nat} {P : Program} {w : World} {ops : Array Oper} {rest : List Oper} {o : Oper} {a : Act} {Q : Exit → Act → World → Prop}
/-- The walk stands at this operation: a guard. -/
theorem at_opI {F : Fence} (o : Oper) {rest : List Oper} {a : Act} (h : wpListIn F n P ops Q (o :: rest) a w) : wpListIn F n P ops Q (o :: rest) a w := h
/-- An operation by its run, inside the wide fence. -/
theorem wpListIn_run (hw : Region.wanted o (yielded ops a.tmps) = true) (v : Value) (W' : World) (hr : (execOp a.eval o).run P w = .ok (.value v) W') (h : wpListIn Fence.wide n P ops Q rest (a.put o.dst v) W') : wpListIn Fence.wide n P ops Q (o :: rest) a w :=
  BigFrame.wpListIn_want hw fun K hK => ⟨fun _ _ => trivial, by
    show o.uponIn Fence.wide n P a _ _ ((execOp a.eval o).run P w)
    rw [hr]
    exact hK _ _ h⟩
/-- A store, likewise. -/
theorem wpListIn_skipW (hw : Region.wanted o (yielded ops a.tmps) = true) (W' : World) (hr : (execOp a.eval o).run P w = .ok .skip W') (h : wpListIn Fence.wide n P ops Q rest (a.put o.dst undef) W') : wpListIn Fence.wide n P ops Q (o :: rest) a w :=
  BigFrame.wpListIn_want hw fun K hK => ⟨fun _ _ => trivial, by
    show o.uponIn Fence.wide n P a _ _ ((execOp a.eval o).run P w)
    rw [hr]
    exact hK _ _ h⟩
/-- .. within a round. -/
theorem wpListIn_runR {l : Nat} (hd : ∀ c, o.op ≠ .defer c) (hw : Region.wanted o (yielded ops a.tmps) = true) (v : Value) (W' : World) (hr : (execOp a.eval o).run P w = .ok (.value v) W') (h : wpListIn (Fence.wide.inRound l) n P ops Q rest (a.put o.dst v) W') : wpListIn (Fence.wide.inRound l) n P ops Q (o :: rest) a w :=
  BigFrame.wpListIn_want hw fun K hK => ⟨fun _ _ => trivial, by
    rw [Oper.semAt_eq _ _ _ hd, hr]
    exact hK _ _ h⟩
theorem wpListIn_skipR {l : Nat} (hd : ∀ c, o.op ≠ .defer c) (hw : Region.wanted o (yielded ops a.tmps) = true) (W' : World) (hr : (execOp a.eval o).run P w = .ok .skip W') (h : wpListIn (Fence.wide.inRound l) n P ops Q rest (a.put o.dst undef) W') : wpListIn (Fence.wide.inRound l) n P ops Q (o :: rest) a w :=
  BigFrame.wpListIn_want hw fun K hK => ⟨fun _ _ => trivial, by
    rw [Oper.semAt_eq _ _ _ hd, hr]
    exact hK _ _ h⟩
/-- A whole row is loaded. -/
theorem exec_load_row {f : Operand → Value} {W : World} (ty : TypeId) (x : Operand) (ho : o.op = .load ty x) (g : Nat) (hx : f x = .pointer (some ⟨g, 0, none⟩)) (t : TypeId) (cs : Array Value) (fr : Nat × Nat) (d : TypeDesc) (hg : W.heap[g]? = some (.cells cs t fr))
    (hu : P.underlying ty = some d) (hd : (match d with | .struct _ | .array _ _ => true | _ => false) = true) (hi : (P.info? ty).map (·.size) = some cs.size) : (execOp f o).run P W = .ok (.value (.agg cs)) W := by
  unfold execOp
  simp only [ho, hx, Instr.loadAt, Instr.sureAddr, Sem.run_bind, Sem.run_pure, Result.andThen_ok, run_loadVar_row W g t ty cs fr d hg hu hd hi]
end
end Go.Proofs.YtcoclaabainibaaDoor.AI
