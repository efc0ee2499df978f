/- PkL PkO in one -/
import Derived.Test.YtceeipejhmnkfaaPkD
import Derived.Test.YtceeipejhmnkfaaObS
import Derived.Great.BuildSlice
namespace Go.Proofs.Ytceeipejhmnkfaa
open Go Go.ChangeShapes Go.WideShapes Go.ChangeAt Go.RowKit

theorem pkA_one (q : Pk) (a : Option Addr) (c : Nat) : (pkA q a c).all (·.oneCell') = true := by
  refine Array.all_eq_true_iff_forall_mem.2 (fun v hv => ?_)
  have hm : v ∈ pkc q a c := by simpa [pkA] using hv
  simp only [pkc, u8l, List.mem_append, List.mem_cons, List.mem_map, List.not_mem_nil, or_false] at hm
  rcases hm with (rfl | rfl | rfl | rfl | rfl) | ⟨x, _, rfl⟩ | rfl | rfl | rfl | rfl <;> rfl
theorem pkA_size {q : Pk} (h : q.ip.length = 16) (a : Option Addr) (c : Nat) : (pkA q a c).size = 25 := by
  have := pkc_len h a c
  simpa [pkA] using this
theorem RwO.nil (W : World) (B : Nat) : RwO W B none [] := ⟨fun h => absurd h (by simp), fun _ _ h => by cases h⟩
set_option maxRecDepth 100000 in
theorem load_p {o : Oper} {f : Operand → Value} {p : Operand} {g : Nat} {q : Pk} {a : Option Addr} {c : Nat} {W : World} (ho : o.op = .load 28 p) (hp : f p = .pointer (.some ⟨g, 0, .none⟩)) (h : InP W g q a c) (h16 : q.ip.length = 16) : (execOp f o).run Try.prog W = .ok (.value (.agg (pkA q a c))) W := by
  have h1 : (loadVar 28 ⟨g, 0, .none⟩).run Try.prog W = .ok (.agg (pkA q a c)) W :=
    run_loadVar_row W g 28 28 (pkA q a c) (0, 0) _ h Try.underlying28 rfl (by rw [pkA_size h16]; exact szP)
  unfold execOp
  simp only [ho, hp, Instr.loadAt, Instr.sureAddr, Sem.run_bind, Sem.run_pure, Result.andThen_ok, h1]
end Go.Proofs.Ytceeipejhmnkfaa

namespace Go.Proofs.Ytceeipejhmnkfaa
open Go Go.ChangeShapes Go.WideShapes Go.ChangeAt Go.RowKit

set_option maxRecDepth 100000 in
theorem zeroO : ((Try.prog.info? 58).bind (·.zero)).isSome = true := by kernel_rfl
theorem fill_one {x : Orf} (hx : OrfOk x) (z : Value) : Instr.fill (fun i => some (i * 36, 36)) ((Array.range (1 * 36)).map (z.cells[· % z.cells.size]!)) [(0, Value.agg (orA x))] = some (orA x) := by
  have h := Great.fill_whole (s := 36) (by omega) [Value.agg (orA x)] ((Array.range (1 * 36)).map (z.cells[· % z.cells.size]!)) (fun v hv => by
    rw [List.mem_singleton] at hv
    subst hv
    exact orA_size hx) (by simp)
  simp only [List.zipIdx_cons, List.zipIdx_nil, List.map_cons, List.map_nil, List.flatMap_cons, List.flatMap_nil, List.append_nil] at h
  exact h
set_option maxRecDepth 100000 in
theorem exec_one {o : Oper} {f : Operand → Value} {W : World} {p : Operand} {x : Orf} (hx : OrfOk x) (ho : o.op = .buildSlice 26 1 #[(0, p)]) (hp : f p = .agg (orA x)) :
    (execOp f o).run Try.prog W = .ok (.value (.slice (some ⟨W.heap.size, 0, none⟩) 1 1)) (W.alloc (.cells (orA x) 58)) := by
  have hz := zeroO
  have hs := szO
  cases hie : Try.prog.info? 58 with
  | none => simp [hie] at hs
  | some ie =>
    simp only [hie, Option.map_some, Option.some.injEq, Option.bind_some] at hs hz
    obtain ⟨z, hzz⟩ := Option.isSome_iff_exists.1 hz
    have h := run_buildSlice (P := Try.prog) W 26 58 1 #[(0, Value.agg (orA x))] (orA x) ie z Try.underlying26 hie hzz (by rw [hs]; decide) (by rw [hs]; decide) (by rw [hs]; exact fill_one hx z)
    unfold execOp
    simp only [ho, List.map_toArray, List.map_cons, List.map_nil, hp, Sem.run_bind, h, Result.andThen_ok, Sem.run_pure]
/-- An operation whose run is known, and that makes memory. -/
theorem wpList_runN {P : Program} {w : World} {ops : Array Oper} {rest : List Oper} {o : Oper} {a : Act} {Q : Exit → Act → World → Prop} (hw : Region.wanted o (yielded ops a.tmps) = true) (v : Value) (W' : World)
    (hr : (execOp a.eval o).run P w = .ok (.value v) W') (h : wpList P ops Q rest (a.put o.dst v) W') : wpList P ops Q (o :: rest) a w :=
  BigFrame.wpList_want hw fun K hK => by
    unfold Oper.wp
    rw [hr]
    exact hK _ _ h
end Go.Proofs.Ytceeipejhmnkfaa
