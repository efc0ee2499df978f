/-
  The program's New; events held against each other; the document's example.
-/
import Derived.Test.YtcoclaabainibaaDoorFmF
import Derived.Test.YtcoclaabainibaaDoorCkE
import Derived.Test.YtcoclaabainibaaDoorEq
namespace Go.Proofs.YtcoclaabainibaaDoor
open Go Go.ChangeShapes Go.WideShapes Go.ChangeAt Go.RowKit

def fs0 (ls : List Ins) (arg : Int) : Fs := ⟨ls, arg, 0, [], false, false⟩
theorem check_err (ls : List Ins) (s : Int) : (checkP ls s).2.2 = (heightP ls s).2.2 := by
  unfold checkP
  split
  · rename_i h; exact h.symm
  · rfl
theorem fs0_ok {ls : List Ins} (arg : Int) (h : (checkP ls 8).2.2 = 0) : FsR (fs0 ls arg) := by
  rw [check_err] at h
  have hr := right_of h
  have h1 := hr.1
  exact ⟨⟨_, hr, fun _ => ⟨h1, (right_at hr h1 (List.getElem?_eq_getElem h1)).first rfl⟩⟩, by show 0 < 32; omega, fun h => (by cases h), Nat.zero_le 8⟩
def NwP (w : World) (ls : List Ins) (arg : Int) (e : Ending) (w' : World) : Prop := Below w.heap.size w w' ∧
  (if (checkP ls 8).2.2 = 0 then ∃ p S qv sv, e = .returned (.tuple #[.pointer (some ⟨p, 0, none⟩), .int .i64 0]) ∧ (∀ k, S k → w.heap.size ≤ k) ∧ FmW w' S p (fs0 ls arg) qv sv else e = .returned (.tuple #[.pointer none, .int .i64 (checkP ls 8).2.2]))
set_option maxRecDepth 100000 in
set_option maxHeartbeats 4000000 in
theorem New_any (ls : List Ins) (arg : Int) (ad : Option Addr) (N c : Nat) (w : World) (hT : TabB w) (hok : ∀ x ∈ ls, InsOk x) (hR : RwI w w.heap.size ad ls) (hN : N = ls.length) (hNc : N ≤ c) (hc : c ≤ 9223372036854775807) :
    Calls Tryd.prog 9 #[.slice ad N c, iv arg] w (NwP w ls arg) := by
  have HCK := hid (Check_any ls 8 ad N c w hT hok (by unfold J64; decide) hR hN hNc hc)
  have hlen : (checkP ls 8).2.2 = 0 → ls.length ≤ 32 := fun h => by rw [check_err] at h; exact (right_of h).2.1
  have HLEN := hid hlen
  have HR := hid hR
  have HN := hid hN
  unfold NwP
  generalize checkP ls 8 = k at *
  obtain ⟨k1, k2, k3⟩ := k
  dsimp only at HCK HLEN ⊢
  clear hT hok hR hN hlen
  by_cases h0 : k3 = 0
  · subst h0
    have HCL := hid (fun (W : World) (hb : Below w.heap.size w W) => CloneI_any W ad c N ls HN.out (HR.out.on hb) (by have := HLEN.out rfl; rw [HN.out]; omega))
    simp only [if_true]
    go_enter Tryd.func9, Tryd.ntmps9
    go_upto_region 4 with (first
      | (go_at_call 17; refine HCK.out.mono ?_; rintro e w2 ⟨rfl, hb2⟩; have HB2 := hid hb2; have HC2 := hid (HCL.out w2 hb2); clear hb2)
      | fail)
    go_wp2_with (first
      | (go_at_call 18; refine HC2.out.mono ?_; rintro e w3 ⟨u, rfl, hu⟩; obtain ⟨ua, uc, rfl⟩ := own_form hu.1; have HU := hid hu; clear hu)
      | fail)
    go_ret2
    have hb3 : Below w.heap.size w w3 := HB2.out.trans (HU.out.2.mono HB2.out.size)
    have hb4 : Below w.heap.size w (w3.alloc (.cells #[.slice ua ls.length uc, iv arg, .int .i64 0, .slice none 0 0, .bool false] TFm)) := hb3.alloc hb3.size _
    refine ⟨hb4, w3.heap.size, (fun k => w2.heap.size ≤ k ∧ k < w3.heap.size + 1), .slice ua ls.length uc, .slice none 0 0, rfl, fun k hk => Nat.le_trans HB2.out.size hk.1, heap_alloc_new _ _, .inr ⟨rfl, (own_base (Nat.zero_le _) HU.out.1).alloc _⟩, World.ownsRow_nil _ _ _ _, ⟨HU.out.2.size, by omega⟩, fun k hk => ?_, fun k hk => (by cases hk), fun k hk => by simp; omega⟩
    have := HU.out.1.lt k hk
    exact ⟨this.1, by omega⟩
  · simp only [if_neg h0]
    have d0 : (k3 != 0) = true := by simpa using h0
    clear h0
    go_enter Tryd.func9, Tryd.ntmps9
    go_wp2_with (first
      | (go_at_call 17; refine HCK.out.mono ?_; rintro e w2 ⟨rfl, hb2⟩; have HB2 := hid hb2; clear hb2)
      | fail)
    go_ret2
    exact ⟨HB2.out, rfl⟩
/-! Events. -/
theorem map5E {α β : Type} {g : α → β} {fs : List α} {a0 a1 a2 a3 a4 : β} (h : fs.map g = [a0, a1, a2, a3, a4]) : ∃ f0 f1 f2 f3 f4, fs = [f0, f1, f2, f3, f4] ∧ g f0 = a0 ∧ g f1 = a1 ∧ g f2 = a2 ∧ g f3 = a3 ∧ g f4 = a4 := by
  rcases fs with _ | ⟨f0, _ | ⟨f1, _ | ⟨f2, _ | ⟨f3, _ | ⟨f4, _ | ⟨f5, fs⟩⟩⟩⟩⟩⟩
  all_goals simp at h
  obtain ⟨h0, h1, h2, h3, h4⟩ := h
  exact ⟨f0, f1, f2, f3, f4, rfl, h0, h1, h2, h3, h4⟩
set_option maxRecDepth 100000 in
theorem fieldsE : (Tryd.prog.fieldsOf TEv).toList.map (fun f => (f.name, f.type, f.offset)) = [("Kind", 3, 0), ("Slot", 3, 1), ("Method", 3, 2), ("N", 2, 3), ("Code", 26, 4)] := by kernel_rfl
set_option maxRecDepth 100000 in
theorem partE_0 (x : Ev) (w : World) : (part 3 (evA x) 0).run Tryd.prog w = .ok (.int .i64 x.kind) w := by simp [part, isAgg, run_underlying Tryd.underlying3, evA]
set_option maxRecDepth 100000 in
theorem partE_1 (x : Ev) (w : World) : (part 3 (evA x) 1).run Tryd.prog w = .ok (.int .i64 x.slot) w := by simp [part, isAgg, run_underlying Tryd.underlying3, evA]
set_option maxRecDepth 100000 in
theorem partE_2 (x : Ev) (w : World) : (part 3 (evA x) 2).run Tryd.prog w = .ok (.int .i64 x.meth) w := by simp [part, isAgg, run_underlying Tryd.underlying3, evA]
set_option maxRecDepth 100000 in
theorem partE_3 (x : Ev) (w : World) : (part 2 (evA x) 3).run Tryd.prog w = .ok (.int .i64 x.n) w := by simp [part, isAgg, run_underlying Tryd.underlying2, evA]
set_option maxRecDepth 100000 in
theorem partE_4 (x : Ev) (w : World) : (part 26 (evA x) 4).run Tryd.prog w = .ok (.int .i64 x.code) w := by simp [part, isAgg, run_underlying Tryd.underlying26, evA]
set_option maxRecDepth 100000 in
theorem guardE (op : BinOp) (a b : Operand) (xs ys : Array Value) (W : World) : (eqGuard op TEv a b (.agg xs) (.agg ys)).run Tryd.prog W = .ok () W := run_eqGuard_agg W op TEv a b xs ys (by kernel_rfl)
theorem eqE_step {P : Program} {d : Nat} {xs ys : Array Value} {f : Field} {fs : List Field} {w : World} {a b : Value} {r s : Bool} {nm : String} {ty : TypeId} {off : Nat} (hnm : f.name = nm) (hty : f.type = ty) (hoff : f.offset = off) (hn : nm ≠ "_") (ha : (part ty xs off).run P w = .ok a w) (hb : (part ty ys off).run P w = .ok b w) (he : (Op.equalIn d ty a b).run P w = .ok r w)
    (hs : (Op.eqFields d xs ys fs).run P w = .ok s w) : (Op.eqFields d xs ys (f :: fs)).run P w = .ok (r && s) w := by
  rw [Op.eqFields, hnm, hty, hoff, if_pos hn]
  simp only [Sem.run_bind, ha, hb, he, Result.andThen_ok]
  cases r
  · simp
  · simpa using hs
/-- Two events held against each other. -/
def eqE (x y : Ev) : Bool := x.kind == y.kind && (x.slot == y.slot && (x.meth == y.meth && (x.n == y.n && (x.code == y.code && true))))
theorem eqE_iff {x y : Ev} : eqE x y = true ↔ x = y := by
  obtain ⟨a, b, c, d, e⟩ := x
  obtain ⟨a', b', c', d', e'⟩ := y
  simp [eqE]
set_option maxRecDepth 100000 in
theorem eqEv2 (x y : Ev) (w : World) : (Op.equalIn 10000 TEv (.agg (evA x)) (.agg (evA y))).run Tryd.prog w = .ok (eqE x y) w := by
  rw [run_equalIn_struct w 9999 TEv _ _ (by kernel_rfl) (by kernel_rfl)]
  have hf := fieldsE
  generalize (Tryd.prog.fieldsOf TEv).toList = fs at hf
  have e : ∀ v u : Int, (Op.equalIn 9999 3 (.int .i64 v) (.int .i64 u)).run Tryd.prog w = .ok (v == u) w := fun v u =>
    run_equalIn_int (P := Tryd.prog) w 9998 3 .i64 .i64 v u Tryd.underlying3
  have eL : ∀ v u : Int, (Op.equalIn 9999 2 (.int .i64 v) (.int .i64 u)).run Tryd.prog w = .ok (v == u) w := fun v u =>
    run_equalIn_int (P := Tryd.prog) w 9998 2 .i64 .i64 v u Tryd.underlying2
  have eN : ∀ v u : Int, (Op.equalIn 9999 26 (.int .i64 v) (.int .i64 u)).run Tryd.prog w = .ok (v == u) w := fun v u =>
    run_equalIn_int (P := Tryd.prog) w 9998 26 .i64 .i64 v u Tryd.underlying26
  obtain ⟨f0, f1, f2, f3, f4, rfl, g0, g1, g2, g3, g4⟩ := map5E hf
  clear hf
  simp only [Prod.mk.injEq] at g0 g1 g2 g3 g4
  obtain ⟨n0, t0, o0⟩ := g0
  obtain ⟨n1, t1, o1⟩ := g1
  obtain ⟨n2, t2, o2⟩ := g2
  obtain ⟨n3, t3, o3⟩ := g3
  obtain ⟨n4, t4, o4⟩ := g4
  have hfin : (Op.eqFields 9999 (evA x) (evA y) []).run Tryd.prog w = .ok true w := by simp [Op.eqFields]
  have h4 := eqE_step n4 t4 o4 (by simp) (partE_4 x w) (partE_4 y w) (eN _ _) hfin
  have h3 := eqE_step n3 t3 o3 (by simp) (partE_3 x w) (partE_3 y w) (eL _ _) h4
  have h2 := eqE_step n2 t2 o2 (by simp) (partE_2 x w) (partE_2 y w) (e _ _) h3
  have h1 := eqE_step n1 t1 o1 (by simp) (partE_1 x w) (partE_1 y w) (e _ _) h2
  exact eqE_step n0 t0 o0 (by simp) (partE_0 x w) (partE_0 y w) (e _ _) h1
theorem eqEv (x : Ev) (w : World) : (Op.equalIn 10000 TEv (.agg (evA x)) (.agg (evA x))).run Tryd.prog w = .ok true w := by
  have h := eqEv2 x x w
  rw [eqE_iff.2 rfl] at h
  exact h
/-- Two events, held against each other. -/
theorem exec_eqEv {o : Oper} {f : Operand → Value} {W : World} {a b : Operand} {x y : Ev} (ho : o.op = .binOp .eql TEv a b TEv) (hx : f a = .agg (evA x)) (hy : f b = .agg (evA y)) : (execOp f o).run Tryd.prog W = .ok (.value (.bool (eqE x y))) W := by
  have h1 := eqEv2 x y
  have h2 := guardE
  unfold execOp
  simp only [ho, hx, hy]
  go_simp
theorem exec_neEv {o : Oper} {f : Operand → Value} {W : World} {a b : Operand} {x y : Ev} (ho : o.op = .binOp .neq TEv a b TEv) (hx : f a = .agg (evA x)) (hy : f b = .agg (evA y)) : (execOp f o).run Tryd.prog W = .ok (.value (.bool (!eqE x y))) W := by
  have h1 := eqEv2 x y
  have h2 := guardE
  unfold execOp
  simp only [ho, hx, hy]
  go_simp
/-- An operation that loads an event. -/
theorem load_ev {o : Oper} {f : Operand → Value} {p : Operand} {g : Nat} {x : Ev} {W : World} (ho : o.op = .load TEv p) (hp : f p = .pointer (some ⟨g, 0, none⟩)) (h : W.heap[g]? = some (.cells (evA x) TEv (0, 0))) : (execOp f o).run Tryd.prog W = .ok (.value (.agg (evA x))) W := by
  have h1 : (loadVar TEv ⟨g, 0, none⟩).run Tryd.prog W = .ok (.agg (evA x)) W := run_loadVar_row W g TEv TEv (evA x) (0, 0) _ h Tryd.underlying36 rfl szEv
  unfold execOp
  simp only [ho, hp, Instr.loadAt, Instr.sureAddr, Sem.run_bind, Sem.run_pure, Result.andThen_ok, h1]
theorem rwi_block {W : World} {b : Nat} {t : TypeId} {fr : Nat × Nat} {ls : List Ins} (h : W.heap[b]? = some (.cells (ls.flatMap insc).toArray t fr)) : RwI W W.heap.size (some ⟨b, 0, none⟩) ls :=
  ⟨fun _ => ⟨b, 0, rfl, (Array.getElem?_eq_some_iff.1 h).1⟩, fun b' o' he i x hx j u hu => by
    cases he
    have hj : j < 3 := (List.getElem?_eq_some_iff.1 hu).1
    have h2 := fi_get hj hx
    rw [hu] at h2
    simp only [World.cell?, h, Nat.zero_add, List.getElem?_toArray, h2]
    rfl⟩
end Go.Proofs.YtcoclaabainibaaDoor
