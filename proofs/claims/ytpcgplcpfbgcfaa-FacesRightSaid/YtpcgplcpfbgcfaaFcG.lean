/-
  Ids and whole faces: loaded, held against each other.
-/
import Derived.Test.YtpcgplcpfbgcfaaFcA
namespace Go.Proofs.Ytpcgplcpfbgcfaa
open Go Go.ChangeShapes Go.WideShapes Go.ChangeAt Go.RowKit

theorem szB (w : World) : (sizeOf 5).run Try.prog w = .ok 1 w := by kernel_rfl
theorem size28 : (Try.prog.info? 28).map (·.size) = some 16 := by kernel_rfl
theorem size30 : (Try.prog.info? 30).map (·.size) = some 17 := by kernel_rfl
theorem AtL.run {W : World} {b o : Nat} {cs : List Value} (h : AtL W b o cs) : Sem.run Try.prog (loadCellsFrom ⟨b, o, none⟩ 0 cs.length #[]) W = .ok cs.toArray W := by
  have h1 : ∀ j v, cs[j]? = some v → W.cell? ((⟨b, o, none⟩ : Addr).add j) = some v := fun j v hv => by
    have h2 := h j v hv
    cases j with
    | zero => simpa [Addr.add] using h2
    | succ j => simpa [Addr.add] using h2
  have := run_loadCellsFrom_list Try.prog W ⟨b, o, none⟩ cs cs.length rfl h1
  simpa using this
theorem agg28 (W : World) : (isAgg 28).run Try.prog W = .ok true W := by kernel_rfl
theorem agg30 (W : World) : (isAgg 30).run Try.prog W = .ok true W := by kernel_rfl
theorem AtL.load28 {W : World} {b o : Nat} {cs : List Value} (h : AtL W b o cs) (hn : cs.length = 16) : (loadVar 28 ⟨b, o, none⟩).run Try.prog W = .ok (.agg cs.toArray) W := by
  have h1 := h.run
  cases hq : Try.prog.info? 28 with
  | none => have := size28; simp [hq] at this
  | some i =>
    have hi : i.size = 16 := by have := size28; simpa [hq] using this
    rw [hn] at h1
    simp [loadVar, sizeOf, typeInfo, hq, hi, loadCells, h1]
theorem AtL.load30 {W : World} {b o : Nat} {cs : List Value} (h : AtL W b o cs) (hn : cs.length = 17) : (loadVar 30 ⟨b, o, none⟩).run Try.prog W = .ok (.agg cs.toArray) W := by
  have h1 := h.run
  cases hq : Try.prog.info? 30 with
  | none => have := size30; simp [hq] at this
  | some i =>
    have hi : i.size = 17 := by have := size30; simpa [hq] using this
    rw [hn] at h1
    simp [loadVar, sizeOf, typeInfo, hq, hi, loadCells, h1]
/-- An Id is loaded. -/
theorem load_id {o : Oper} {f : Operand → Value} {p : Operand} {b off : Nat} {x : List Int} {W : World} (ho : o.op = .load 28 p) (hp : f p = .pointer (some ⟨b, off, none⟩)) (h : AtL W b off (u8s x).toList) (hx : x.length = 16) : (execOp f o).run Try.prog W = .ok (.value (.agg (u8s x))) W := by
  have h1 := h.load28 (by simp [u8s_size, hx])
  unfold execOp
  simp only [ho, hp, Instr.loadAt, Instr.sureAddr, Sem.run_bind, Sem.run_pure, Result.andThen_ok, h1]
/-- A face is loaded. -/
theorem load_face {o : Oper} {f : Operand → Value} {p : Operand} {b off : Nat} {x : Face} {W : World} (ho : o.op = .load 30 p) (hp : f p = .pointer (some ⟨b, off, none⟩)) (h : AtL W b off (fcl x)) (hx : x.id.length = 16) : (execOp f o).run Try.prog W = .ok (.value (.agg (fcl x).toArray)) W := by
  have h1 := h.load30 (fcl_len hx)
  unfold execOp
  simp only [ho, hp, Instr.loadAt, Instr.sureAddr, Sem.run_bind, Sem.run_pure, Result.andThen_ok, h1]
theorem eq28 (x y : List Int) (hx : x.length = 16) (hy : y.length = 16) (w : World) : (Op.equalIn 10000 28 (.agg (u8s x)) (.agg (u8s y))).run Try.prog w = .ok (x == y) w :=
  run_equalIn_u8s w 9998 28 5 16 Try.underlying28 Try.underlying5 szB x y hx hy
theorem guard28 (op : BinOp) (a b : Operand) (xs ys : Array Value) (W : World) : (eqGuard op 28 a b (.agg xs) (.agg ys)).run Try.prog W = .ok () W := run_eqGuard_agg W op 28 a b xs ys (by kernel_rfl)
theorem guard30 (op : BinOp) (a b : Operand) (xs ys : Array Value) (W : World) : (eqGuard op 30 a b (.agg xs) (.agg ys)).run Try.prog W = .ok () W := run_eqGuard_agg W op 30 a b xs ys (by kernel_rfl)
theorem fcl_head {x : Face} (hx : x.id.length = 16) : (List.take 16 (fcl x)).toArray = u8s x.id := by
  simp [fcl, u8s, u8l, ← hx]
theorem fields30 : (Try.prog.fieldsOf 30).toList.map (fun f => (f.name, f.type, f.offset)) = [("Id", 28, 0), ("Base", 3, 16)] := by kernel_rfl
theorem eq30 (x : Face) (hx : x.id.length = 16) (w : World) : (Op.equalIn 10000 30 (.agg (fcl x).toArray) (.agg (fcl x).toArray)).run Try.prog w = .ok true w := by
  rw [run_equalIn_struct w 9999 30 _ _ (by kernel_rfl) (by kernel_rfl)]
  have hf := fields30
  generalize (Try.prog.fieldsOf 30).toList = fs at hf
  rcases fs with _ | ⟨f1, _ | ⟨f2, _ | ⟨f3, fs⟩⟩⟩
  · simp at hf
  · simp at hf
  · simp only [List.map_cons, List.map_nil, List.cons.injEq, Prod.mk.injEq, and_true] at hf
    obtain ⟨⟨n1, t1, o1⟩, n2, t2, o2⟩ := hf
    have e1 : (Op.equalIn 9999 28 (.agg (u8s x.id)) (.agg (u8s x.id))).run Try.prog w = .ok (x.id == x.id) w := run_equalIn_u8s w 9997 28 5 16 Try.underlying28 Try.underlying5 szB x.id x.id hx hx
    rw [← fcl_head hx] at e1
    have e2 : (Op.equalIn 9999 3 (.int .i64 x.base) (.int .i64 x.base)).run Try.prog w = .ok (x.base == x.base) w := run_equalIn_int w 9998 3 .i64 .i64 _ _ Try.underlying3
    have hb : (fcl x)[16]? = some (.int .i64 x.base) := fcl_base hx
    simp [Op.eqFields, n1, n2, t1, t2, o1, o2, part, e1, e2, hb, isAgg, run_underlying Try.underlying3]
  · simp at hf
end Go.Proofs.Ytpcgplcpfbgcfaa
