/-
  Two Objrefs held against each other with ==.
-/
import Derived.Test.YtceeipejhmnkfaaObA
namespace Go.Proofs.Ytceeipejhmnkfaa
open Go Go.ChangeShapes Go.WideShapes Go.ChangeAt Go.RowKit

def eqO (x y : Orf) : Bool := (x.fl == y.fl) && ((x.rf == y.rf) && ((x.ox == y.ox) && ((x.oi == y.oi) && ((x.ip == y.ip) && (x.ii == y.ii)))))
theorem eqO_iff {x y : Orf} : eqO x y = true ↔ x = y := by
  obtain ⟨a, b, c, d, e, f⟩ := x
  obtain ⟨a', b', c', d', e', f'⟩ := y
  simp [eqO]
theorem eqO_self (x : Orf) : eqO x x = true := eqO_iff.2 rfl
theorem map6 {α β : Type} {g : α → β} {fs : List α} {a0 a1 a2 a3 a4 a5 : β} (h : fs.map g = [a0, a1, a2, a3, a4, a5]) : ∃ f0 f1 f2 f3 f4 f5, fs = [f0, f1, f2, f3, f4, f5] ∧ g f0 = a0 ∧ g f1 = a1 ∧ g f2 = a2 ∧ g f3 = a3 ∧ g f4 = a4 ∧ g f5 = a5 := by
  rcases fs with _ | ⟨f0, _ | ⟨f1, _ | ⟨f2, _ | ⟨f3, _ | ⟨f4, _ | ⟨f5, _ | ⟨f6, fs⟩⟩⟩⟩⟩⟩⟩
  all_goals simp at h
  obtain ⟨h0, h1, h2, h3, h4, h5⟩ := h
  exact ⟨f0, f1, f2, f3, f4, f5, rfl, h0, h1, h2, h3, h4, h5⟩
set_option maxRecDepth 100000 in
theorem fieldsO : (Try.prog.fieldsOf 58).toList.map (fun f => (f.name, f.type, f.offset)) = [("Flags", 56, 0), ("Refs", 56, 1), ("Oxid", 22, 2), ("Oid", 22, 3), ("Ipid", 24, 4), ("Iid", 24, 20)] := by kernel_rfl
set_option maxRecDepth 100000 in
theorem part_ip {x : Orf} (h : OrfOk x) (w : World) : (part 24 (orA x) 4).run Try.prog w = .ok (.agg (u8s x.ip)) w := by
  have h1 := infoG
  cases hq : Try.prog.info? 24 with
  | none => simp [hq] at h1
  | some i =>
    have hi : i.size = 16 := by simpa [hq] using h1
    have e : (orA x).extract 4 20 = u8s x.ip := by
      obtain ⟨f, r, o, p, ip, ii⟩ := x
      have h4 := h.ip.len
      have h5 := h.ii.len
      simp only at h4 h5
      simp [orA, orc, u8s, u8l, h4]
    have e2 : 20 ≤ (orA x).size := by rw [orA_size h]; omega
    simp [part, isAgg, run_underlying Try.underlying24, sizeOf, typeInfo, hq, hi, e]
    try omega
set_option maxRecDepth 100000 in
theorem part_ii {x : Orf} (h : OrfOk x) (w : World) : (part 24 (orA x) 20).run Try.prog w = .ok (.agg (u8s x.ii)) w := by
  have h1 := infoG
  cases hq : Try.prog.info? 24 with
  | none => simp [hq] at h1
  | some i =>
    have hi : i.size = 16 := by simpa [hq] using h1
    have e : (orA x).extract 20 36 = u8s x.ii := by
      obtain ⟨f, r, o, p, ip, ii⟩ := x
      have h4 := h.ip.len
      have h5 := h.ii.len
      simp only at h4 h5
      have h6 : List.take 16 (List.map (Value.int IntKind.u8) ii) = List.map (Value.int IntKind.u8) ii := List.take_of_length_le (by simp [h5])
      simp [orA, orc, u8s, u8l, h4, h6]
    have e2 : 36 ≤ (orA x).size := by rw [orA_size h]; omega
    simp [part, isAgg, run_underlying Try.underlying24, sizeOf, typeInfo, hq, hi, e]
    try omega
set_option maxRecDepth 100000 in
theorem part_0 (x : Orf) (w : World) : (part 56 (orA x) 0).run Try.prog w = .ok (.int .u32 x.fl) w := by
  simp [part, isAgg, run_underlying Try.underlying56, orA, orc]
set_option maxRecDepth 100000 in
theorem part_1 (x : Orf) (w : World) : (part 56 (orA x) 1).run Try.prog w = .ok (.int .u32 x.rf) w := by
  simp [part, isAgg, run_underlying Try.underlying56, orA, orc]
set_option maxRecDepth 100000 in
theorem part_2 (x : Orf) (w : World) : (part 22 (orA x) 2).run Try.prog w = .ok (.int .u64 x.ox) w := by
  simp [part, isAgg, run_underlying Try.underlying22, orA, orc]
set_option maxRecDepth 100000 in
theorem part_3 (x : Orf) (w : World) : (part 22 (orA x) 3).run Try.prog w = .ok (.int .u64 x.oi) w := by
  simp [part, isAgg, run_underlying Try.underlying22, orA, orc]
set_option maxRecDepth 100000 in
theorem guardO (op : BinOp) (a b : Operand) (xs ys : Array Value) (W : World) : (eqGuard op 58 a b (.agg xs) (.agg ys)).run Try.prog W = .ok () W := run_eqGuard_agg W op 58 a b xs ys (by kernel_rfl)
theorem eq_step {P : Program} {d : Nat} {xs ys : Array Value} {f : Field} {fs : List Field} {w : World} {a b : Value} {r s : Bool} {nm : String} {ty : TypeId} {off : Nat} (hnm : f.name = nm) (hty : f.type = ty) (hoff : f.offset = off) (hn : nm ≠ "_") (ha : (part ty xs off).run P w = .ok a w) (hb : (part ty ys off).run P w = .ok b w) (he : (Op.equalIn d ty a b).run P w = .ok r w)
    (hs : (Op.eqFields d xs ys fs).run P w = .ok s w) : (Op.eqFields d xs ys (f :: fs)).run P w = .ok (r && s) w := by
  rw [Op.eqFields, hnm, hty, hoff, if_pos hn]
  simp only [Sem.run_bind, ha, hb, he, Result.andThen_ok]
  cases r
  · simp
  · simpa using hs
set_option maxRecDepth 100000 in
theorem eqObj (x y : Orf) (hx : OrfOk x) (hy : OrfOk y) (w : World) : (Op.equalIn 10000 58 (.agg (orA x)) (.agg (orA y))).run Try.prog w = .ok (eqO x y) w := by
  rw [run_equalIn_struct w 9999 58 _ _ (by kernel_rfl) (by kernel_rfl)]
  have hf := fieldsO
  generalize (Try.prog.fieldsOf 58).toList = fs at hf
  have e0 : (Op.equalIn 9999 56 (.int .u32 x.fl) (.int .u32 y.fl)).run Try.prog w = .ok (x.fl == y.fl) w := run_equalIn_int w 9998 56 .u32 .u32 _ _ Try.underlying56
  have e1 : (Op.equalIn 9999 56 (.int .u32 x.rf) (.int .u32 y.rf)).run Try.prog w = .ok (x.rf == y.rf) w := run_equalIn_int w 9998 56 .u32 .u32 _ _ Try.underlying56
  have e2 : (Op.equalIn 9999 22 (.int .u64 x.ox) (.int .u64 y.ox)).run Try.prog w = .ok (x.ox == y.ox) w := run_equalIn_int w 9998 22 .u64 .u64 _ _ Try.underlying22
  have e3 : (Op.equalIn 9999 22 (.int .u64 x.oi) (.int .u64 y.oi)).run Try.prog w = .ok (x.oi == y.oi) w := run_equalIn_int w 9998 22 .u64 .u64 _ _ Try.underlying22
  have e4 : (Op.equalIn 9999 24 (.agg (u8s x.ip)) (.agg (u8s y.ip))).run Try.prog w = .ok (x.ip == y.ip) w := run_equalIn_u8s w 9997 24 5 16 Try.underlying24 Try.underlying5 szB x.ip y.ip hx.ip.len hy.ip.len
  have e5 : (Op.equalIn 9999 24 (.agg (u8s x.ii)) (.agg (u8s y.ii))).run Try.prog w = .ok (x.ii == y.ii) w := run_equalIn_u8s w 9997 24 5 16 Try.underlying24 Try.underlying5 szB x.ii y.ii hx.ii.len hy.ii.len
  have p4 := part_ip hx w
  have p5 := part_ii hx w
  have q4 := part_ip hy w
  have q5 := part_ii hy w
  obtain ⟨f0, f1, f2, f3, f4, f5, rfl, g0, g1, g2, g3, g4, g5⟩ := map6 hf
  clear hf
  simp only [Prod.mk.injEq] at g0 g1 g2 g3 g4 g5
  obtain ⟨n0, t0, o0⟩ := g0
  obtain ⟨n1, t1, o1⟩ := g1
  obtain ⟨n2, t2, o2⟩ := g2
  obtain ⟨n3, t3, o3⟩ := g3
  obtain ⟨n4, t4, o4⟩ := g4
  obtain ⟨n5, t5, o5⟩ := g5
  have hfin : (Op.eqFields 9999 (orA x) (orA y) []).run Try.prog w = .ok true w := by simp [Op.eqFields]
  have h5 := eq_step n5 t5 o5 (by simp) p5 q5 e5 hfin
  have h4 := eq_step n4 t4 o4 (by simp) p4 q4 e4 h5
  have h3 := eq_step n3 t3 o3 (by simp) (part_3 x w) (part_3 y w) e3 h4
  have h2 := eq_step n2 t2 o2 (by simp) (part_2 x w) (part_2 y w) e2 h3
  have h1 := eq_step n1 t1 o1 (by simp) (part_1 x w) (part_1 y w) e1 h2
  have h0 := eq_step n0 t0 o0 (by simp) (part_0 x w) (part_0 y w) e0 h1
  rw [Bool.and_true] at h0
  exact h0
end Go.Proofs.Ytceeipejhmnkfaa
