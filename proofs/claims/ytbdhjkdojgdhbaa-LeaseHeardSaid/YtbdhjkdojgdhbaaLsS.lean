/-
  The law's helper same, at two alike rows of keys with their times.
-/
import Derived.Test.YtbdhjkdojgdhbaaLsT
import Derived.Test.YtbdhjkdojgdhbaaLsZ
import Derived.Test.YtbdhjkdojgdhbaaEq
namespace Go.Proofs.Ytbdhjkdojgdhbaa
open Go Go.ChangeShapes Go.WideShapes Go.ChangeAt Go.RowKit

theorem map2O {α β : Type} {g : α → β} {fs : List α} {a0 a1 : β} (h : fs.map g = [a0, a1]) : ∃ f0 f1, fs = [f0, f1] ∧ g f0 = a0 ∧ g f1 = a1 := by
  rcases fs with _ | ⟨f0, _ | ⟨f1, _ | ⟨f2, fs⟩⟩⟩
  all_goals simp at h
  exact ⟨f0, f1, rfl, h.1, h.2⟩
set_option maxRecDepth 100000 in
theorem fieldsO : (Try.prog.fieldsOf TOn).toList.map (fun f => (f.name, f.type, f.offset)) = [("Key", 31, 0), ("At", 3, 1)] := by kernel_rfl
set_option maxRecDepth 100000 in
theorem guardOn (op : BinOp) (a b : Operand) (xs ys : Array Value) (W : World) : (eqGuard op TOn a b (.agg xs) (.agg ys)).run Try.prog W = .ok () W := run_eqGuard_agg W op TOn a b xs ys (by kernel_rfl)
theorem eqO_step {P : Program} {d : Nat} {xs ys : Array Value} {f : Field} {fs : List Field} {w : World} {a b : Value} {r s : Bool} {nm : String} {ty : TypeId} {off : Nat} (hnm : f.name = nm) (hty : f.type = ty) (hoff : f.offset = off) (hn : nm ≠ "_") (ha : (part ty xs off).run P w = .ok a w) (hb : (part ty ys off).run P w = .ok b w) (he : (Op.equalIn d ty a b).run P w = .ok r w)
    (hs : (Op.eqFields d xs ys fs).run P w = .ok s w) : (Op.eqFields d xs ys (f :: fs)).run P w = .ok (r && s) w := by
  rw [Op.eqFields, hnm, hty, hoff, if_pos hn]
  simp only [Sem.run_bind, ha, hb, he, Result.andThen_ok]
  cases r
  · simp
  · simpa using hs
set_option maxRecDepth 100000 in
theorem eqOn (x y : On) (w : World) : (Op.equalIn 10000 TOn (.agg (onA x)) (.agg (onA y))).run Try.prog w = .ok (x.1 == y.1 && (x.2 == y.2 && true)) w := by
  rw [run_equalIn_struct w 9999 TOn _ _ (by kernel_rfl) (by kernel_rfl)]
  have hf := fieldsO
  generalize (Try.prog.fieldsOf TOn).toList = fs at hf
  have eU : ∀ v u : Int, (Op.equalIn 9999 31 (.int .u64 v) (.int .u64 u)).run Try.prog w = .ok (v == u) w := fun v u =>
    run_equalIn_int (P := Try.prog) w 9998 31 .u64 .u64 v u Try.underlying31
  have eI : ∀ v u : Int, (Op.equalIn 9999 3 (.int .i64 v) (.int .i64 u)).run Try.prog w = .ok (v == u) w := fun v u =>
    run_equalIn_int (P := Try.prog) w 9998 3 .i64 .i64 v u Try.underlying3
  obtain ⟨f0, f1, rfl, g0, g1⟩ := map2O hf
  clear hf
  simp only [Prod.mk.injEq] at g0 g1
  obtain ⟨n0, t0, o0⟩ := g0
  obtain ⟨n1, t1, o1⟩ := g1
  have p0 : ∀ z : On, (part 31 (onA z) 0).run Try.prog w = .ok (.int .u64 z.1) w := fun z => by simp [part, isAgg, run_underlying Try.underlying31, onA]
  have p1 : ∀ z : On, (part 3 (onA z) 1).run Try.prog w = .ok (.int .i64 z.2) w := fun z => by simp [part, isAgg, run_underlying Try.underlying3, onA]
  have hfin : (Op.eqFields 9999 (onA x) (onA y) []).run Try.prog w = .ok true w := by simp [Op.eqFields]
  have h1 := eqO_step n1 t1 o1 (by simp) (p1 x) (p1 y) (eI _ _) hfin
  exact eqO_step n0 t0 o0 (by simp) (p0 x) (p0 y) (eU _ _) h1
theorem exec_neOn {o : Oper} {f : Operand → Value} {W : World} {a b : Operand} {x : On} (ho : o.op = .binOp .neq TOn a b TOn) (hx : f a = .agg (onA x)) (hy : f b = .agg (onA x)) : (execOp f o).run Try.prog W = .ok (.value (.bool false)) W := by
  have h1 := eqOn x x
  have h2 := guardOn
  unfold execOp
  simp only [ho, hx, hy]
  go_simp
theorem exec_idxO {o : Oper} {f : Operand → Value} {W : World} {p q : Operand} {b off n cap k : Nat} (ho : o.op = .indexAddr TSO p q) (hp : f p = .slice (some ⟨b, off, none⟩) n cap) (hl : f q = .int .i64 (k : Int)) (h1 : k < n) :
    (execOp f o).run Try.prog W = .ok (.value (.pointer (some ⟨b, off + k * 2, none⟩))) W := by
  unfold execOp
  simp only [ho, hp, hl]
  go_simp
set_option maxHeartbeats 2000000 in
set_option maxRecDepth 100000 in
/-- same, at two alike rows. -/
theorem sameO_any (w : World) (va vb : Value) (n : Nat) (l : List On) (ha : TwE w va n l) (hb : TwE w vb n l) (hn9 : n ≤ 100000) :
    Calls Try.prog 14 #[va, vb] w fun e w' => e = .returned (.bool true) ∧ Below w.heap.size w w' := by
  have HN := hid ha.len
  have hfa : ∃ aa ca, va = .slice aa n ca := by
    rcases ha.ex with ⟨e, hz⟩ | ⟨g, c, e, _⟩
    · exact ⟨none, 0, by rw [e, hz]⟩
    · exact ⟨_, c, e⟩
  have hfb : ∃ aa ca, vb = .slice aa n ca := by
    rcases hb.ex with ⟨e, hz⟩ | ⟨g, c, e, _⟩
    · exact ⟨none, 0, by rw [e, hz]⟩
    · exact ⟨_, c, e⟩
  obtain ⟨a1, c1, rfl⟩ := hfa
  obtain ⟨a2, c2, rfl⟩ := hfb
  have HA := hid ha
  have HB := hid hb
  have HB0 := hid (Fr.refl (fun _ => False) w)
  clear ha hb
  go_enter Try.func14, Try.ntmps14
  go_wp2
  go_loopw [5] (fun i wr => ∃ q : Nat, q ≤ n ∧ i = .int .i64 q ∧ RowKit.Hid (Fr (fun _ => False) w wr)) (fun i _ => n - (intOf i).toNat)
  case atStart => exact ⟨0, by omega, rfl, HB0⟩
  case round =>
    obtain ⟨q, hq, rfl, HF⟩ := hrel
    by_cases hqn : q < n
    · have hx := List.getElem?_eq_getElem (l := l) (i := q) (by rw [← HN.out]; exact hqn)
      generalize l[q]'(by rw [← HN.out]; exact hqn) = x at hx
      rcases (HA.out.no HF.out).ex with ⟨_, e0⟩ | ⟨g1, k1, h1, _, _, h2⟩
      · omega
      rcases (HB.out.no HF.out).ex with ⟨_, e0⟩ | ⟨g2, k2, h3, _, _, h4⟩
      · omega
      simp only [Value.slice.injEq] at h1 h3
      obtain ⟨rfl, -, rfl⟩ := h1
      obtain ⟨rfl, -, rfl⟩ := h3
      have t1 : ∀ W, Fr (fun _ => False) wr W → AtL W g1 (0 + q * 2) (onc x) := fun W hW j u hu => by
        have h5 := h2 q x hx j u hu
        exact (World.cell?_of_block (w := wr) (w' := W) (a := ⟨g1, 0 + q * 2 + j, none⟩) (hW.block g1 (World.block_lt_of_cell? wr _ h5) (fun e => e))).trans h5
      have t2 : ∀ W, Fr (fun _ => False) wr W → AtL W g2 (0 + q * 2) (onc x) := fun W hW j u hu => by
        have h5 := h4 q x hx j u hu
        exact (World.cell?_of_block (w := wr) (w' := W) (a := ⟨g2, 0 + q * 2 + j, none⟩) (hW.block g2 (World.block_lt_of_cell? wr _ h5) (fun e => e))).trans h5
      have T1 := hid t1
      have T2 := hid t2
      have HD := hid (HF.out.drew)
      clear t1 t2 h2 h4 hx
      go_upto_region 6 with fail
      refine D.wp_region_mix [0, 0, 0, 1, 0, 0, 0, 1, 0] (fun W => Fr (fun _ => False) wr W) (by kernel_rfl) (by kernel_rfl) ((Fr.refl _ _).drew) ?_
      repeat (first
        | ((with_reducible refine C.atM ⟨some 19, _, _, _, _, _⟩ ?_); refine C.wpMix_value _ rfl rfl (fun W => exec_idxO (k := q) rfl rfl rfl hqn) ?_; simp only [Act.put, List.setIfInBounds_toArray, List.set_cons_zero, List.set_cons_succ])
        | ((with_reducible refine C.atM ⟨some 23, _, _, _, _, _⟩ ?_); refine C.wpMix_value _ rfl rfl (fun W => exec_idxO (k := q) rfl rfl rfl hqn) ?_; simp only [Act.put, List.setIfInBounds_toArray, List.set_cons_zero, List.set_cons_succ])
        | ((with_reducible refine C.atM ⟨some 20, _, _, _, _, _⟩ ?_); refine C.wpMix_read (.agg (onA x)) rfl rfl (fun W hS => load_cells Try.underlying42 rfl (by kernel_rfl) rfl rfl (T1.out W hS)) ?_; simp only [Act.put, List.setIfInBounds_toArray, List.set_cons_zero, List.set_cons_succ])
        | ((with_reducible refine C.atM ⟨some 24, _, _, _, _, _⟩ ?_); refine C.wpMix_read (.agg (onA x)) rfl rfl (fun W hS => load_cells Try.underlying42 rfl (by kernel_rfl) rfl rfl (T2.out W hS)) ?_; simp only [Act.put, List.setIfInBounds_toArray, List.set_cons_zero, List.set_cons_succ])
        | ((with_reducible refine C.atM ⟨some 25, _, _, _, _, _⟩ ?_); refine C.wpMix_value _ rfl rfl (fun W => exec_neOn (x := x) rfl rfl rfl) ?_; simp only [Act.put, List.setIfInBounds_toArray, List.set_cons_zero, List.set_cons_succ])
        | (refine' C.wpMix_value _ rfl rfl _ _; rotate_left; (solve | (intro W; go_simp) | (intro W; go_simp; with_reducible rfl)); simp only [Act.put, List.setIfInBounds_toArray, List.set_cons_zero, List.set_cons_succ]))
      refine C.wpMix_end ?_
      clear T1 T2
      go_wp2_with fail
      go_roundw
      case rel => exact ⟨q + 1, by omega, by go_num, HD⟩
      case measure => simp [intOf]; omega
    · obtain rfl : n = q := by omega
      go_wp2
      go_ret
      exact ⟨rfl, HF.out.below (Nat.le_refl _) (fun _ e => e.elim)⟩
end Go.Proofs.Ytbdhjkdojgdhbaa
