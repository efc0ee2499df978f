/-
  GuidSorts' regions.
-/
import Derived.Test.YtmmmjkmhlkkdkaaGsB
import Derived.Maps.AppendAt
namespace Go.Proofs.Ytmmmjkmhlkkdkaa
open Go Go.ChangeShapes Go.WideShapes Go.ChangeAt Go.RowKit

set_option maxRecDepth 100000 in
theorem loadVar16 {W : World} {a : Addr} {x : List Int} (h : At16 W a x) (hx : x.length = 16) : (loadVar 51 a).run Try.prog W = .ok (.agg (u8s x)) W := by
  have h1 := h.run hx
  cases hq : Try.prog.info? 51 with
  | none => have := size51; simp [hq] at this
  | some i =>
    have hi : i.size = 16 := by have := size51; simpa [hq] using this
    simp [loadVar, sizeOf, typeInfo, hq, hi, loadCells, h1]
theorem load16 {o : Oper} {f : Operand → Value} {p : Operand} {ad : Addr} {x : List Int} {W : World} (ho : o.op = .load 51 p) (hp : f p = .pointer (some ad)) (h : At16 W ad x) (hx : x.length = 16) : (execOp f o).run Try.prog W = .ok (.value (.agg (u8s x))) W := by
  unfold execOp
  simp only [ho, hp, Instr.loadAt, Instr.sureAddr, Sem.run_bind, Sem.run_pure, Result.andThen_ok, loadVar16 h hx]
theorem wpList_appendR {P : Program} {w : World} {ops : Array Oper} {rest : List Oper} {o : Oper} {a : Act} {Q : Exit → Act → World → Prop} (hgd : o.guard = none) (s x : Operand) (t : TypeId)
    (ho : o.op = .call { callee := .builtin .append, args := #[s, x], argTypes := #[t, t] }) (v u v' : Value) (w' : World) (hs : a.eval s = v) (hx : a.eval x = u)
    (hr : (Builtin.append_ #[t, t] o.type #[v, u]).run P w = .ok v' w') (h : wpList P ops Q rest (a.put o.dst v') w') : wpList P ops Q (o :: rest) a w := by
  refine wpList_plain hgd fun K hK => ?_
  unfold Oper.wp execOp
  simp only [ho, resolve, invoke, builtin, Sem.run_bind, Sem.run_pure, Result.andThen_ok, List.map_toArray, List.map_cons, List.map_nil, hs, hx, hr]
  exact hK _ _ h
theorem appnil (W : World) (a : Addr) : (Builtin.append_ #[48, 48] 48 #[.slice (some a) 0 0, .slice none 0 0]).run Try.prog W = .ok (.slice (some a) 0 0) W := by
  kernel_rfl
/-- What 'append([]Guid{}, l...)' gives. -/
theorem app_any (w : World) (ad : Option Addr) (cap : Nat) (l : List (List Int)) (hl : GRow w w.heap.size ad l) (hn : l.length ≤ 200) (hc : ad = none → cap = 0) :
    ∃ v' w', (Builtin.append_ #[48, 48] 48 #[.slice (some ⟨w.heap.size, 0, none⟩) 0 0, .slice ad l.length cap]).run Try.prog (w.alloc (.cells #[] 51)) = .ok v' w' ∧
      w'.ownsRow w.heap.size 51 16 v' l.length (l.flatMap enc16) ∧ Below w.heap.size w w' := by
  have hown : (w.alloc (.cells #[] 51)).ownsRow w.heap.size 51 16 (.slice (some ⟨w.heap.size, 0, none⟩) 0 0) 0 [] :=
    World.ownsRow_made w #[] 0 (Nat.le_refl _) (Nat.zero_le _) rfl
  have hB : Below w.heap.size w (w.alloc (.cells #[] 51)) := (Below.refl _ _).alloc (Nat.le_refl _) _
  cases ad with
  | none =>
    have h0 : l = [] := List.eq_nil_of_length_eq_zero (by
      rcases Nat.eq_zero_or_pos l.length with h | h
      · exact h
      · obtain ⟨a, ha, _⟩ := hl.some h; cases ha)
    subst h0
    obtain rfl := hc rfl
    exact ⟨_, _, appnil _ _, hown, hB⟩
  | some a =>
    obtain ⟨i0, hi, hz0, hz1, hz2⟩ := info_parts info51
    have hl' : GRow (w.alloc (.cells #[] 51)) w.heap.size (some a) l := hl.below hB
    obtain ⟨v', w', hr, h1, h2, _, _⟩ := run_append_own_at (P := Try.prog) (w.alloc (.cells #[] 51)) w.heap.size 48 48 51 i0 _ 16 16 Try.underlying48 hi hz0 hz1 hz2 rfl (by decide) _ 0 [] hown a l.length cap (l.flatMap enc16) (flat16_len l) (fun j u hu => hl'.flat j u hu) (flat16_one l) (by unfold maxLen; omega) (by omega) (by simp)
    refine ⟨v', w', hr, by simpa using h1, ?_⟩
    exact ((Fr.of_below hB).grown (fp := fun j => w.heap.size ≤ j) h2 (fun k hk hlt => by cases hk; exact absurd hlt (Nat.lt_irrefl _))).below (Nat.le_refl _) (fun k hk => hk)
end Go.Proofs.Ytmmmjkmhlkkdkaa
