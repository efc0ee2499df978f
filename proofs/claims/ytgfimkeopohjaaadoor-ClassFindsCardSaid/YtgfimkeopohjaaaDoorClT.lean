/- CdEq ClS SureW ClT in one -/
import Derived.Test.YtgfimkeopohjaaaDoorCdB
import Derived.Test.YtgfimkeopohjaaaDoorEq
import Derived.Test.YtgfimkeopohjaaaDoorClA
import Derived.Test.YtgfimkeopohjaaaDoorCdQ
import Derived.Test.YtgfimkeopohjaaaDoorMixD
import Derived.Test.YtgfimkeopohjaaaDoorSureA
import Derived.Test.YtgfimkeopohjaaaDoorGen
namespace Go.Proofs.YtgfimkeopohjaaaDoor
open Go Go.ChangeShapes Go.WideShapes Go.ChangeAt Go.RowKit

theorem map3I {α β : Type} {g : α → β} {fs : List α} {a0 a1 a2 : β} (h : fs.map g = [a0, a1, a2]) : ∃ f0 f1 f2, fs = [f0, f1, f2] ∧ g f0 = a0 ∧ g f1 = a1 ∧ g f2 = a2 := by
  rcases fs with _ | ⟨f0, _ | ⟨f1, _ | ⟨f2, _ | ⟨f3, fs⟩⟩⟩⟩
  all_goals simp at h
  obtain ⟨h0, h1, h2⟩ := h
  exact ⟨f0, f1, f2, rfl, h0, h1, h2⟩
set_option maxRecDepth 100000 in
theorem fieldsI : (Tryd.prog.fieldsOf 61).toList.map (fun f => (f.name, f.type, f.offset)) = [("Op", 3, 0), ("A", 3, 1), ("B", 3, 2)] := by kernel_rfl
set_option maxRecDepth 100000 in
theorem partI_0 (x : Ins) (w : World) : (part 3 (insA x) 0).run Tryd.prog w = .ok (.int .i64 x.op) w := by
  simp [part, isAgg, run_underlying Tryd.underlying3, insA, insc]
set_option maxRecDepth 100000 in
theorem partI_1 (x : Ins) (w : World) : (part 3 (insA x) 1).run Tryd.prog w = .ok (.int .i64 x.a) w := by
  simp [part, isAgg, run_underlying Tryd.underlying3, insA, insc]
set_option maxRecDepth 100000 in
theorem partI_2 (x : Ins) (w : World) : (part 3 (insA x) 2).run Tryd.prog w = .ok (.int .i64 x.b) w := by
  simp [part, isAgg, run_underlying Tryd.underlying3, insA, insc]
set_option maxRecDepth 100000 in
theorem guardI (op : BinOp) (a b : Operand) (xs ys : Array Value) (W : World) : (eqGuard op 61 a b (.agg xs) (.agg ys)).run Tryd.prog W = .ok () W := run_eqGuard_agg W op 61 a b xs ys (by kernel_rfl)
theorem eqI_step {P : Program} {d : Nat} {xs ys : Array Value} {f : Field} {fs : List Field} {w : World} {a b : Value} {r s : Bool} {nm : String} {ty : TypeId} {off : Nat} (hnm : f.name = nm) (hty : f.type = ty) (hoff : f.offset = off) (hn : nm ≠ "_") (ha : (part ty xs off).run P w = .ok a w) (hb : (part ty ys off).run P w = .ok b w) (he : (Op.equalIn d ty a b).run P w = .ok r w)
    (hs : (Op.eqFields d xs ys fs).run P w = .ok s w) : (Op.eqFields d xs ys (f :: fs)).run P w = .ok (r && s) w := by
  rw [Op.eqFields, hnm, hty, hoff, if_pos hn]
  simp only [Sem.run_bind, ha, hb, he, Result.andThen_ok]
  cases r
  · simp
  · simpa using hs
/-- Two instructions held against each other. -/
def eqI (x y : Ins) : Bool := x.op == y.op && (x.a == y.a && (x.b == y.b && true))
theorem eqI_iff {x y : Ins} : eqI x y = true ↔ x = y := by
  obtain ⟨a, b, c⟩ := x
  obtain ⟨d, e, f⟩ := y
  simp [eqI]
set_option maxRecDepth 100000 in
theorem eqIns2 (x y : Ins) (w : World) : (Op.equalIn 10000 61 (.agg (insA x)) (.agg (insA y))).run Tryd.prog w = .ok (eqI x y) w := by
  rw [run_equalIn_struct w 9999 61 _ _ (by kernel_rfl) (by kernel_rfl)]
  have hf := fieldsI
  generalize (Tryd.prog.fieldsOf 61).toList = fs at hf
  have e : ∀ v u : Int, (Op.equalIn 9999 3 (.int .i64 v) (.int .i64 u)).run Tryd.prog w = .ok (v == u) w := fun v u =>
    run_equalIn_int (P := Tryd.prog) w 9998 3 .i64 .i64 v u Tryd.underlying3
  obtain ⟨f0, f1, f2, rfl, g0, g1, g2⟩ := map3I hf
  clear hf
  simp only [Prod.mk.injEq] at g0 g1 g2
  obtain ⟨n0, t0, o0⟩ := g0
  obtain ⟨n1, t1, o1⟩ := g1
  obtain ⟨n2, t2, o2⟩ := g2
  have hfin : (Op.eqFields 9999 (insA x) (insA y) []).run Tryd.prog w = .ok true w := by simp [Op.eqFields]
  have h2 := eqI_step n2 t2 o2 (by simp) (partI_2 x w) (partI_2 y w) (e _ _) hfin
  have h1 := eqI_step n1 t1 o1 (by simp) (partI_1 x w) (partI_1 y w) (e _ _) h2
  exact eqI_step n0 t0 o0 (by simp) (partI_0 x w) (partI_0 y w) (e _ _) h1
theorem eqIns (x : Ins) (w : World) : (Op.equalIn 10000 61 (.agg (insA x)) (.agg (insA x))).run Tryd.prog w = .ok true w := by
  have h := eqIns2 x x w
  rw [eqI_iff.2 rfl] at h
  exact h
end Go.Proofs.YtgfimkeopohjaaaDoor

namespace Go.Proofs.YtgfimkeopohjaaaDoor
open Go Go.ChangeShapes Go.WideShapes Go.ChangeAt Go.RowKit

set_option maxRecDepth 100000 in
set_option maxHeartbeats 4000000 in
theorem SameCode_any (la lb : List Ins) (aa ab : Option Addr) (ca cb na nb : Nat) (w : World) (ha : RwI w w.heap.size aa la) (hb : RwI w w.heap.size ab lb) (hna : na = la.length) (hnb : nb = lb.length) (hca : na ≤ ca) (hcb : nb ≤ cb) (hcm : ca ≤ 9223372036854775807) :
    Calls Tryd.prog 27 #[.slice aa na ca, .slice ab nb cb] w fun e w' => ∃ r : Bool, e = .returned (.bool r) ∧ (r = true ↔ la = lb) ∧ Below w.heap.size w w' := by
  have HA := hid ha
  have HB := hid hb
  have HNA := hid hna
  have HNB := hid hnb
  clear ha hb hna hnb
  by_cases hn : na = nb
  case neg =>
    have d1 : ((na : Int) != (nb : Int)) = true := by simp; omega
    have hne : la ≠ lb := fun e => hn (by rw [HNA.out, HNB.out, e])
    have HNE := hid hne
    clear hn hne
    go_enter Tryd.func27, Tryd.ntmps27
    go_wp2
    go_ret
    exact ⟨false, rfl, ⟨(fun h => by cases h), fun h => (HNE.out h).elim⟩, Below.refl _ _⟩
  subst hn
  have d1 : ((na : Int) != (na : Int)) = false := by simp
  go_enter Tryd.func27, Tryd.ntmps27
  go_wp2
  clear d1
  go_loopw [5] (fun p wr => ∃ q : Nat, q ≤ na ∧ p = .int .i64 q ∧ RowKit.Hid (la.take q = lb.take q) ∧ RowKit.Hid (Fr (fun _ => False) w wr)) (fun p _ => na - (intOf p).toNat)
  case atStart => exact ⟨0, by omega, rfl, hid rfl, hid (Fr.refl _ _)⟩
  case round =>
    obtain ⟨q, hq, rfl, HQ, HFr⟩ := hrel
    by_cases hql : q < na
    · have hx : la[q]? = some (la[q]'(by have := HNA.out; omega)) := List.getElem?_eq_getElem _
      generalize (la[q]'(by have := HNA.out; omega)) = x at hx
      have hy : lb[q]? = some (lb[q]'(by have := HNB.out; omega)) := List.getElem?_eq_getElem _
      generalize (lb[q]'(by have := HNB.out; omega)) = y at hy
      obtain ⟨b, o, rfl, _⟩ := HA.out.at_ (by have := HNA.out; omega)
      obtain ⟨b2, o2, rfl, _⟩ := HB.out.at_ (by have := HNB.out; omega)
      have hS1 : ∀ W, Fr (fun _ => False) w W → AtL W b (o + q * 3) (insc x) := fun W h => AtL.fr (HA.out.rows b o rfl q x hx) h
      have hS2 : ∀ W, Fr (fun _ => False) w W → AtL W b2 (o2 + q * 3) (insc y) := fun W h => AtL.fr (HB.out.rows b2 o2 rfl q y hy) h
      have HS1 := hid hS1
      have HS2 := hid hS2
      have HX := hid hx
      have HY := hid hy
      have he := fun W => eqIns2 x y W
      have hgd := guardI
      clear hS1 hS2 hx hy
      by_cases hxy : x = y
      · rw [eqI_iff.2 hxy] at he
        have HXY := hid hxy
        clear hxy
        go_wp2
        refine D.wp_region_mix [0, 0, 0, 1, 0, 0, 0, 1, 0] (fun W => Fr (fun _ => False) w W) (by kernel_rfl) (by kernel_rfl) HFr.out.drew ?_
        repeat (first
          | (refine C.wpMix_read _ rfl rfl (fun W hS => load_ia rfl rfl (HS1.out W hS)) ?_; simp only [Act.put, List.setIfInBounds_toArray, List.set_cons_zero, List.set_cons_succ])
          | (refine C.wpMix_read _ rfl rfl (fun W hS => load_ia rfl rfl (HS2.out W hS)) ?_; simp only [Act.put, List.setIfInBounds_toArray, List.set_cons_zero, List.set_cons_succ])
          | (refine' C.wpMix_value _ rfl rfl _ _; rotate_left; (solve | (intro W; go_simp) | (intro W; go_simp; with_reducible rfl)); simp only [Act.put, List.setIfInBounds_toArray, List.set_cons_zero, List.set_cons_succ]))
        refine C.wpMix_end ?_
        clear he hgd
        go_wp2
        go_roundw
        case rel => exact ⟨q + 1, by omega, by go_num, hid (by rw [List.take_add_one, List.take_add_one, HQ.out, HX.out, HY.out, HXY.out]), hid HFr.out.drew⟩
        case measure => simp [intOf]; omega
      · have e1 : eqI x y = false := by
          cases h : eqI x y with
          | false => rfl
          | true => exact (hxy (eqI_iff.1 h)).elim
        rw [e1] at he
        have HXY := hid hxy
        clear hxy e1
        go_wp2
        refine D.wp_region_mix [0, 0, 0, 1, 0, 0, 0, 1, 0] (fun W => Fr (fun _ => False) w W) (by kernel_rfl) (by kernel_rfl) HFr.out.drew ?_
        repeat (first
          | (refine C.wpMix_read _ rfl rfl (fun W hS => load_ia rfl rfl (HS1.out W hS)) ?_; simp only [Act.put, List.setIfInBounds_toArray, List.set_cons_zero, List.set_cons_succ])
          | (refine C.wpMix_read _ rfl rfl (fun W hS => load_ia rfl rfl (HS2.out W hS)) ?_; simp only [Act.put, List.setIfInBounds_toArray, List.set_cons_zero, List.set_cons_succ])
          | (refine' C.wpMix_value _ rfl rfl _ _; rotate_left; (solve | (intro W; go_simp) | (intro W; go_simp; with_reducible rfl)); simp only [Act.put, List.setIfInBounds_toArray, List.set_cons_zero, List.set_cons_succ]))
        refine C.wpMix_end ?_
        clear he hgd
        go_wp2
        go_ret
        refine ⟨false, rfl, ⟨(fun h => by cases h), fun h => ?_⟩, HFr.out.drew.below (Nat.le_refl _) (fun _ h => h.elim)⟩
        have h1 := HX.out
        rw [h, HY.out] at h1
        cases h1
        exact (HXY.out rfl).elim
    · obtain rfl : q = na := by omega
      have hz : la = lb := by
        have h1 := HQ.out
        rw [List.take_of_length_le (by rw [← HNA.out]; exact Nat.le_refl _), List.take_of_length_le (by rw [← HNB.out]; exact Nat.le_refl _)] at h1
        exact h1
      have HZ := hid hz
      clear hz
      go_wp2
      go_ret
      exact ⟨true, rfl, ⟨fun _ => HZ.out, fun _ => rfl⟩, HFr.out.below (Nat.le_refl _) (fun _ h => h.elim)⟩
/-- Two faces held against each other. -/
def eqF (x y : Face) : Bool := (x.id == y.id) && (x.base == y.base)
theorem eqF_iff {x y : Face} : eqF x y = true ↔ x = y := by
  obtain ⟨a, b⟩ := x
  obtain ⟨c, d⟩ := y
  simp [eqF]
set_option maxRecDepth 100000 in
theorem eqFace (x y : Face) (hx : x.id.length = 16) (hy : y.id.length = 16) (w : World) : (Op.equalIn 10000 74 (.agg (fcl x).toArray) (.agg (fcl y).toArray)).run Tryd.prog w = .ok (eqF x y) w := by
  rw [run_equalIn_struct w 9999 74 _ _ (by kernel_rfl) (by kernel_rfl)]
  have hf := fields30
  generalize (Tryd.prog.fieldsOf 74).toList = fs at hf
  rcases fs with _ | ⟨f1, _ | ⟨f2, _ | ⟨f3, fs⟩⟩⟩
  · simp at hf
  · simp at hf
  · simp only [List.map_cons, List.map_nil, List.cons.injEq, Prod.mk.injEq, and_true] at hf
    obtain ⟨⟨n1, t1, o1⟩, n2, t2, o2⟩ := hf
    have e1 : (Op.equalIn 9999 34 (.agg (u8s x.id)) (.agg (u8s y.id))).run Tryd.prog w = .ok (x.id == y.id) w := run_equalIn_u8s w 9997 34 5 16 Tryd.underlying34 Tryd.underlying5 szU8 x.id y.id hx hy
    have e2 : (Op.equalIn 9999 3 (.int .i64 x.base) (.int .i64 y.base)).run Tryd.prog w = .ok (x.base == y.base) w := run_equalIn_int w 9998 3 .i64 .i64 _ _ Tryd.underlying3
    have p1 : ∀ z : Face, z.id.length = 16 → (part 34 (fcl z).toArray 0).run Tryd.prog w = .ok (.agg (u8s z.id)) w := fun z hz => by
      have h1 := size28
      have h2 := agg28 w
      cases hq : Tryd.prog.info? 34 with
      | none => simp [hq] at h1
      | some i =>
        have hi : i.size = 16 := by simpa [hq] using h1
        simp [part, h2, sizeOf, typeInfo, hq, hi, fcl_head hz]
    have p2 : ∀ z : Face, z.id.length = 16 → (part 3 (fcl z).toArray 16).run Tryd.prog w = .ok (.int .i64 z.base) w := fun z hz => by
      have hb : (fcl z)[16]? = some (.int .i64 z.base) := fcl_base hz
      simp [part, isAgg, run_underlying Tryd.underlying3, hb]
    have hfin : (Op.eqFields 9999 (fcl x).toArray (fcl y).toArray []).run Tryd.prog w = .ok true w := by simp [Op.eqFields]
    have h2 := eqI_step n2 t2 o2 (by simp) (p2 x hx) (p2 y hy) e2 hfin
    have h1 := eqI_step n1 t1 o1 (by simp) (p1 x hx) (p1 y hy) e1 h2
    rw [Bool.and_true] at h1
    exact h1
  · simp at hf
end Go.Proofs.YtgfimkeopohjaaaDoor

namespace Go.Proofs.YtgfimkeopohjaaaDoor.W
open Go Go.Proofs.YtgfimkeopohjaaaDoor Go.ChangeShapes Go.WideShapes Go.ChangeAt Go.RowKit

section
variable {σ : Type} {P : Program} {ops : Array Oper} {md : Region.Mode} {S : World → Prop} {T : σ → World → Prop} {m : Nat}
def gOp (P : Program) (ops : Array Oper) (S : World → Prop) (T : σ → World → Prop) (m i : Nat) (K : σ → Act → Prop) (s : σ) (a : Act) : Prop :=
  match ops[i]? with
  | none => K s a
  | some o => if m ≤ i then ∀ w, S w → T s w → ∃ s' v w', Region.wanted o (yielded ops a.tmps) = true ∧ ((execOp a.eval o).run P w = .ok (.value v) w' ∨ ((execOp a.eval o).run P w = .ok .skip w' ∧ v = undef)) ∧ S w' ∧ T s' w' ∧ K s' (a.put o.dst v)
    else ∃ v, A.YieldsX P ops S o v a ∧ K s (a.put o.dst v)
def wpAnyG (P : Program) (md : Region.Mode) (ops : Array Oper) (S : World → Prop) (T : σ → World → Prop) (m : Nat) (Q : σ → Act → Prop) : Nat → Array Bool → σ → Act → Prop
  | 0, listed, s, a => Region.ready md ops listed = [] ∧ Q s a
  | fuel + 1, listed, s, a => (Region.ready md ops listed = [] → Q s a) ∧ ∀ i ∈ Region.ready md ops listed, gOp P ops S T m i (wpAnyG P md ops S T m Q fuel (listed.setIfInBounds i true)) s a
theorem gOp_at {i : Nat} {o : Oper} {K : σ → Act → Prop} {s : σ} {a : Act} (ho : ops[i]? = some o) (hi : m ≤ i) (h : ∀ w, S w → T s w → ∃ s' v w', Region.wanted o (yielded ops a.tmps) = true ∧ ((execOp a.eval o).run P w = .ok (.value v) w' ∨ ((execOp a.eval o).run P w = .ok .skip w' ∧ v = undef)) ∧ S w' ∧ T s' w' ∧ K s' (a.put o.dst v)) : gOp P ops S T m i K s a := by
  unfold gOp
  simp only [ho]
  rw [if_pos hi]
  exact h
theorem gOp_mono {i : Nat} {s : σ} {a : Act} {K K' : σ → Act → Prop} (h : ∀ s a, K s a → K' s a) (hh : gOp P ops S T m i K s a) : gOp P ops S T m i K' s a := by
  unfold gOp at *
  split
  · exact h _ _ (by simpa [*] using hh)
  · rename_i o ho
    simp only [ho] at hh
    by_cases e : m ≤ i
    · rw [if_pos e] at hh ⊢
      intro w hS hT
      obtain ⟨s', v, w', h1, h2, h3, h4, h5⟩ := hh w hS hT
      exact ⟨s', v, w', h1, h2, h3, h4, h _ _ h5⟩
    · rw [if_neg e] at hh ⊢
      obtain ⟨v, hy, hk⟩ := hh
      exact ⟨v, hy, h _ _ hk⟩
theorem gOp_put {j : Nat} {oi oj : Oper} {v : Value} (hj : ops[j]? = some oj) (hap : oi.apart ops oj = true)
    (hsi : ∀ cs b, oi.op ≠ .select cs b) (hsj : ∀ cs b, oj.op ≠ .select cs b) {K : σ → Act → Prop} {s : σ} {a : Act}
    (hy : A.YieldsX P ops S oi v a) (h : gOp P ops S T m j K s (a.put oi.dst v)) :
    gOp P ops S T m j (fun s' a' => A.YieldsX P ops S oi v a' ∧ K s' (a'.put oi.dst v)) s a := by
  obtain ⟨h1, h2, h3⟩ := Oper.apart_spec hap
  unfold gOp at *
  simp only [hj] at *
  by_cases e : m ≤ j
  · rw [if_pos e] at h ⊢
    intro w hS hT
    obtain ⟨s', u, w', g1, g2, g3, g4, g5⟩ := h w hS hT
    rw [wanted_put oj a oi.dst v h1] at g1
    rw [execOp_put oj hsj a oi.dst v h1] at g2
    refine ⟨s', u, w', g1, g2, g3, g4, hy.of_same (execOp_put oi hsi a oj.dst _ h3) (wanted_put oi a oj.dst _ h3), ?_⟩
    rw [← Act.put_comm a v _ h2]
    exact g5
  · rw [if_neg e] at h ⊢
    obtain ⟨u, hu, hk⟩ := h
    refine ⟨u, hu.of_same (execOp_put oj hsj a oi.dst v h1).symm (wanted_put oj a oi.dst v h1).symm, hy.of_same (execOp_put oi hsi a oj.dst u h3) (wanted_put oi a oj.dst u h3), ?_⟩
    rw [← Act.put_comm a v u h2]
    exact hk
theorem wpAnyG_first {Q : σ → Act → Prop} {i : Nat} {oi : Oper} {v : Value} (him : i < m) (hi : ops[i]? = some oi) (hsel : ∀ (j : Nat) (o : Oper) cs b, ops[j]? = some o → o.op ≠ .select cs b) :
    ∀ (fuel : Nat) (listed : Array Bool) (s : σ) (a : Act),
      (∀ j oj, ops[j]? = some oj → j ≠ i → listed.getD j true = false → (∀ e ∈ oj.after, Region.binds md e = true → e.on ≠ i) → oi.apart ops oj = true) →
      i ∈ Region.ready md ops listed → A.YieldsX P ops S oi v a →
      wpAnyG P md ops S T m Q fuel (listed.setIfInBounds i true) s (a.put oi.dst v) → wpAnyG P md ops S T m Q (fuel + 1) listed s a := by
  intro fuel
  induction fuel with
  | zero =>
    intro listed s a _ hr hy H
    refine ⟨fun h => (by rw [h] at hr; cases hr), fun j hj => ?_⟩
    by_cases hji : j = i
    · subst hji
      unfold gOp; simp only [hi]; rw [if_neg (by omega)]; exact ⟨v, hy, H⟩
    · have h1 := ready_mono hj hji
      rw [H.1] at h1
      cases h1
  | succ fuel ih =>
    intro listed s a hfree hr hy H
    refine ⟨fun h => (by rw [h] at hr; cases hr), fun j hj => ?_⟩
    by_cases hji : j = i
    · subst hji
      unfold gOp; simp only [hi]; rw [if_neg (by omega)]; exact ⟨v, hy, H⟩
    · have h1 := H.2 j (ready_mono hj hji)
      obtain ⟨hjun, oj, hoj, hall⟩ := mem_ready.1 hj
      have hnot : ∀ e ∈ oj.after, Region.binds md e = true → e.on ≠ i := fun e he hb heq => by
        have h1 := hall e he hb
        have h0 := (mem_ready.1 hr).1
        rw [heq] at h1
        exact A.not_both h1 h0
      have h2 := gOp_put hoj (hfree j oj hoj hji hjun hnot) (fun cs b => hsel i oi cs b hi) (fun cs b => hsel j oj cs b hoj) hy h1
      have hfree' : ∀ k ok, ops[k]? = some ok → k ≠ i → (listed.setIfInBounds j true).getD k true = false →
          (∀ e ∈ ok.after, Region.binds md e = true → e.on ≠ i) → oi.apart ops ok = true := fun k ok hk hki hun hno => by
        refine hfree k ok hk hki ?_ hno
        by_cases hjk : j = k
        · subst hjk; exact hjun
        · rw [getD_set_ne true hjk] at hun; exact hun
      refine gOp_mono (fun s' a' h3 => ih (listed.setIfInBounds j true) s' a' hfree' (ready_mono hr (Ne.symm hji)) h3.1 ?_) h2
      rw [Array.setIfInBounds_comm _ _ hji]
      exact h3.2
/-- What stands at the end: two that are made, two that fill. -/
def endB (md : Region.Mode) (ops : Array Oper) (m : Nat) (L : Array Bool) : Bool :=
  (Region.ready md ops L == [m, m + 1]) && (Region.ready md ops (L.setIfInBounds m true) == [m + 1]) && (Region.ready md ops (L.setIfInBounds (m + 1) true) == [m]) &&
  (Region.ready md ops ((L.setIfInBounds m true).setIfInBounds (m + 1) true) == [m + 2]) && (Region.ready md ops (((L.setIfInBounds m true).setIfInBounds (m + 1) true).setIfInBounds (m + 2) true) == [m + 3]) &&
  (Region.ready md ops ((((L.setIfInBounds m true).setIfInBounds (m + 1) true).setIfInBounds (m + 2) true).setIfInBounds (m + 3) true) == [])
def lexE (md : Region.Mode) (ops : Array Oper) (m : Nat) : Nat → Nat → Array Bool → Bool
  | 0, _, L => endB md ops m L
  | n + 1, k, L => lexE md ops m n (k + 1) (L.setIfInBounds k true)
/-- The four in a row, in both orders. -/
def Four (P : Program) (ops : Array Oper) (S : World → Prop) (T : σ → World → Prop) (m : Nat) (Q : σ → Act → Prop) (s : σ) (a : Act) : Prop :=
  let rest : σ → Act → Prop := gOp P ops S T m (m + 2) (gOp P ops S T m (m + 3) Q)
  gOp P ops S T m m (gOp P ops S T m (m + 1) rest) s a ∧ gOp P ops S T m (m + 1) (gOp P ops S T m m rest) s a
theorem wpAnyG_four {Q : σ → Act → Prop} {L : Array Bool} {s : σ} {a : Act} (hE : endB md ops m L = true) (h : Four P ops S T m Q s a) : wpAnyG P md ops S T m Q 4 L s a := by
  simp only [endB, Bool.and_eq_true, beq_iff_eq] at hE
  obtain ⟨⟨⟨⟨⟨r0, r1⟩, r2⟩, r3⟩, r4⟩, r5⟩ := hE
  have one : ∀ {fuel : Nat} {L : Array Bool} {i : Nat} {s : σ} {a : Act}, Region.ready md ops L = [i] → gOp P ops S T m i (wpAnyG P md ops S T m Q fuel (L.setIfInBounds i true)) s a → wpAnyG P md ops S T m Q (fuel + 1) L s a := fun hr hh =>
    ⟨fun h0 => (by rw [hr] at h0; cases h0), fun j hj => by rw [hr, List.mem_singleton] at hj; subst hj; exact hh⟩
  have tail : ∀ {L' : Array Bool} {s : σ} {a : Act}, L' = (L.setIfInBounds m true).setIfInBounds (m + 1) true → gOp P ops S T m (m + 2) (gOp P ops S T m (m + 3) Q) s a → wpAnyG P md ops S T m Q 2 L' s a := fun {L' s a} e hh => by
    subst e
    refine one r3 (gOp_mono (fun s a h2 => one r4 (gOp_mono (fun s a h3 => ⟨r5, h3⟩) h2)) hh)
  refine ⟨fun h0 => (by rw [r0] at h0; cases h0), fun j hj => ?_⟩
  rw [r0] at hj
  simp only [List.mem_cons, List.not_mem_nil, or_false] at hj
  rcases hj with rfl | rfl
  · exact gOp_mono (fun s a h1 => one r1 (gOp_mono (fun s a h2 => tail rfl h2) h1)) h.1
  · refine gOp_mono (fun s a h1 => one r2 (gOp_mono (fun s a h2 => tail ?_ h2) h1)) h.2
    rw [Array.setIfInBounds_comm _ _ (by omega)]
theorem wpAnyG_lex {Q : σ → Act → Prop} (hs : Region.noSelect ops = true) : ∀ (l : List Oper) (k : Nat) (listed : Array Bool) (s : σ) (a : Act) (r : Nat), r = l.length + 4 → (∀ j, j < l.length → l[j]? = ops[k + j]?) → k + l.length = m →
    Region.lexFrom md ops r k listed = true → lexE md ops m l.length k listed = true → A.wpSure P ops S (fun a' => Four P ops S T m Q s a') l a → wpAnyG P md ops S T m Q r listed s a
  | [], k, listed, s, a, r, hr, _, hk, hB, hE, h => by
    subst hr
    exact wpAnyG_four hE h
  | o :: l, k, listed, s, a, r, hr, hl, hk, hB, hE, h => by
    have h0 : ops[k]? = some o := by simpa using (hl 0 (by simp)).symm
    simp only [List.length_cons] at hk hr
    obtain ⟨r', rfl⟩ : ∃ r', r = r' + 1 := ⟨l.length + 4, by omega⟩
    rw [Region.lexFrom, Bool.and_eq_true, Bool.and_eq_true] at hB
    obtain ⟨⟨hrd, hf⟩, hB'⟩ := hB
    obtain ⟨v, hy, hK⟩ := h
    exact wpAnyG_first (by omega) h0 (Region.noSelect_spec hs) r' listed s a (Region.free_spec h0 hf) (by simpa using hrd) hy
      (wpAnyG_lex hs l (k + 1) _ s _ r' (by omega) (fun j hj => by have := hl (j + 1) (by simp; omega); simpa [Nat.add_assoc, Nat.add_comm 1 j] using this) (by omega) hB' hE hK)
theorem wpOp_of_gOp {i : Nat} {s : σ} {a : Act} {w : World} {K : σ → Act → Prop} {K' : Act → World → Prop} {Q' : Exit → Act → World → Prop}
    (hT : ∀ s w w', T s w → Fr (fun _ => False) w w' → T s w') (hS : S w) (hs : T s w) (h : ∀ s a w, K s a → S w → T s w → K' a w) (hh : gOp P ops S T m i K s a) : wpOp P ops Q' i K' a w := by
  unfold gOp at hh
  unfold wpOp
  split
  · rename_i ho; simp only [ho] at hh; exact h _ _ _ hh hS hs
  · rename_i o ho
    simp only [ho] at hh
    by_cases e : m ≤ i
    · rw [if_pos e] at hh
      obtain ⟨s', v, w', hw, hr, h3, h4, h5⟩ := hh w hS hs
      rw [if_pos hw]
      refine .inl ?_
      unfold Oper.wp
      rcases hr with hr | ⟨hr, rfl⟩
      · rw [hr]; exact h _ _ _ h5 h3 h4
      · rw [hr]; exact h _ _ _ h5 h3 h4
    · rw [if_neg e] at hh
      obtain ⟨v, hy0, hk⟩ := hh
      have hy1 := hy0 w
      have next : ∀ w', S w' → Fr (fun _ => False) w w' → K' (a.put o.dst v) w' := fun w' hS' hF => h _ _ _ hk hS' (hT s w w' hs hF)
      rcases hy1 with ⟨hw, hy⟩ | ⟨hw, rfl⟩
      · rw [if_pos hw]
        refine .inl ?_
        unfold Oper.wp
        rcases hy w ⟨hS, Fr.refl _ _⟩ with ⟨w', hr, hS', hF⟩ | ⟨w', hr, rfl, hS', hF⟩ | ⟨f, args, w', hr, hc⟩
        · rw [hr]; exact next w' hS' hF
        · rw [hr]; exact next w' hS' hF
        · rw [hr]
          exact hc.mono fun e w'' ⟨he, hw', hF⟩ => by subst he; exact next w'' hw' hF
      · rw [if_neg (by rw [hw]; decide)]
        exact next w hS (Fr.refl _ _)
theorem wpAny_of_G {Q : σ → Act → Prop} {Q' : Exit → Act → World → Prop} (hT : ∀ s w w', T s w → Fr (fun _ => False) w w' → T s w') (hQ : ∀ s a w, Q s a → S w → T s w → Q' .normal a w) : ∀ (fuel : Nat) (listed : Array Bool) (s : σ) (a : Act) (w : World), S w → T s w →
    wpAnyG P md ops S T m Q fuel listed s a → wpAny P md ops Q' fuel listed a w
  | 0, _, _, _, _, hS, hs, h => ⟨h.1, hQ _ _ _ h.2 hS hs⟩
  | fuel + 1, _, _, _, _, hS, hs, h => ⟨fun h0 => hQ _ _ _ (h.1 h0) hS hs, fun i hi => wpOp_of_gOp hT hS hs (fun s' a' w' hk hS' hs' => wpAny_of_G hT hQ fuel _ s' a' w' hS' hs' hk) (h.2 i hi)⟩
/-- THE LAW. -/
theorem wp_region_four {id : Nat} {Q : Exit → Act → World → Prop} {a : Act} {w : World} {l : List Oper} (m : Nat) (S : World → Prop) (T : σ → World → Prop) (s0 : σ) (hm : P.follows .mixedOrders = true) (hl : l.length = m + 4)
    (hB : (Region.lexB .any l.toArray && lexE .any l.toArray m m 0 (Array.replicate l.toArray.size false)) = true) (hS : S w.drew) (hs : T s0 w.drew)
    (hT : ∀ s w w', T s w → Fr (fun _ => False) w w' → T s w')
    (h : A.wpSure P l.toArray S (fun a' => Four P l.toArray S T m (fun s a'' => ∀ w', S w' → T s w' → Q .normal a'' w') s0 a') (l.take m) a) : (Code.region id l.toArray true).wp P Q a w := by
  simp only [Region.lexB, Bool.and_eq_true] at hB
  obtain ⟨⟨hns, hlx⟩, hE⟩ := hB
  refine wp_region_any hm (wpAny_of_G (S := S) (T := T) (m := m) (Q := fun s a'' => ∀ w', S w' → T s w' → Q .normal a'' w') hT (fun s a w h h1 h2 => h w h1 h2) _ _ s0 a w.drew hS hs ?_)
  have hlen : (l.take m).length = m := by rw [List.length_take]; omega
  refine wpAnyG_lex hns (l.take m) 0 _ s0 a _ (by simp; omega) (fun j hj => ?_) (by omega) (by simpa using hlx) (by rw [hlen]; exact hE) h
  rw [Nat.zero_add, List.getElem?_toArray, List.getElem?_take_of_lt (by omega)]
end
/-! Two structs of one type -/
structure St2 where
  a : Option Nat
  b : Option Nat
  fa : Bool
  fb : Bool
structure T2 (B0 : Nat) (ty : TypeId) (zs xs ys : Array Value) (s : St2) (w : World) : Prop where
  a : ∀ g, s.a = some g → B0 ≤ g ∧ w.heap[g]? = some (.cells (if s.fa then xs else zs) ty (0, 0))
  b : ∀ g, s.b = some g → B0 ≤ g ∧ w.heap[g]? = some (.cells (if s.fb then ys else zs) ty (0, 0))
  ne : ∀ g g', s.a = some g → s.b = some g' → g ≠ g'
theorem T2.fr {B0 : Nat} {ty : TypeId} {zs xs ys : Array Value} {s : St2} {w w' : World} (h : T2 B0 ty zs xs ys s w) (hf : Fr (fun _ => False) w w') : T2 B0 ty zs xs ys s w' :=
  ⟨fun g hg => ⟨(h.a g hg).1, (hf.block g (Array.getElem?_eq_some_iff.1 (h.a g hg).2).1 (fun h => h)).trans (h.a g hg).2⟩, fun g hg => ⟨(h.b g hg).1, (hf.block g (Array.getElem?_eq_some_iff.1 (h.b g hg).2).1 (fun h => h)).trans (h.b g hg).2⟩, h.ne⟩
section
variable {P : Program}
theorem guard_wanted {o : Oper} (h : o.guard = none) (t : Nat → Option Bool) : Region.wanted o t = true := by unfold Region.wanted; rw [h]
theorem wp_region_two {id : Nat} {Q : Exit → Act → World → Prop} {a : Act} {w wB : World} {l : List Oper} (m : Nat) (oA oB qA qB : Oper) (hn : l.drop m = [oA, oB, qA, qB]) (dA dB : Tmp) (xA xB : Operand) (ty : TypeId) (zs xs ys : Array Value)
    (hm : P.follows .mixedOrders = true) (hB : (Region.lexB .any l.toArray && lexE .any l.toArray m m 0 (Array.replicate l.toArray.size false)) = true)
    (gA : oA.guard = none) (gB : oB.guard = none) (hgA : qA.guard = none) (hgB : qB.guard = none) (eA : oA.dst = some dA) (eB : oB.dst = some dB) (hd : dA ≠ dB) (nA : qA.dst = none) (nB : qB.dst = none)
    (sA : qA.op = .store ty (.tmp dA) xA) (sB : qB.op = .store ty (.tmp dB) xB)
    (aA : ∀ (f : Operand → Value) w, (execOp f oA).run P w = .ok (.value (.pointer (some ⟨w.heap.size, 0, none⟩))) (w.alloc (.cells zs ty))) (aB : ∀ (f : Operand → Value) w, (execOp f oB).run P w = .ok (.value (.pointer (some ⟨w.heap.size, 0, none⟩))) (w.alloc (.cells zs ty)))
    (ix : (P.info? ty).map (·.size) = some xs.size) (iy : (P.info? ty).map (·.size) = some ys.size) (zx : zs.size = xs.size) (zy : zs.size = ys.size) (ox : xs.all (·.oneCell') = true) (oy : ys.all (·.oneCell') = true)
    (hS : Below wB.heap.size wB w)
    (h : A.wpSure P l.toArray (fun W => Below wB.heap.size wB W) (fun a' => dA < a'.tmps.size ∧ dB < a'.tmps.size ∧ (∀ g g' : Nat, ((a'.put (some dA) (.pointer (some ⟨g, 0, none⟩))).put (some dB) (.pointer (some ⟨g', 0, none⟩))).eval xA = .agg xs) ∧ (∀ g g' : Nat, ((a'.put (some dA) (.pointer (some ⟨g, 0, none⟩))).put (some dB) (.pointer (some ⟨g', 0, none⟩))).eval xB = .agg ys) ∧
      ∀ (g g' : Nat) w', Below wB.heap.size wB w' → wB.heap.size ≤ g → wB.heap.size ≤ g' → g ≠ g' → w'.heap[g]? = some (.cells xs ty (0, 0)) → w'.heap[g']? = some (.cells ys ty (0, 0)) →
        Q .normal ((a'.put (some dA) (.pointer (some ⟨g, 0, none⟩))).put (some dB) (.pointer (some ⟨g', 0, none⟩))) w') (l.take m) a) : (Code.region id l.toArray true).wp P Q a w := by
  have hlen : l.length = m + 4 := by
    have h1 := congrArg List.length hn
    rw [List.length_drop] at h1
    simp at h1; omega
  have at_ : ∀ j, l[m + j]? = [oA, oB, qA, qB][j]? := fun j => by rw [← hn, List.getElem?_drop]
  have o0 : l.toArray[m]? = some oA := by simpa using at_ 0
  have o1 : l.toArray[m + 1]? = some oB := by simpa using at_ 1
  have o2 : l.toArray[m + 2]? = some qA := by simpa using at_ 2
  have o3 : l.toArray[m + 3]? = some qB := by simpa using at_ 3
  refine wp_region_four (σ := St2) m (fun W => Below wB.heap.size wB W) (T2 wB.heap.size ty zs xs ys) ⟨none, none, false, false⟩ hm hlen hB hS.drew ⟨(fun g h => by cases h), (fun g h => by cases h), (fun g g' h => by cases h)⟩ (fun s w w' h hf => h.fr hf) ?_
  refine A.wpSure_mono (fun a' ha => ?_) (l.take m) a h
  obtain ⟨hz1, hz2, ex, ey, hQ⟩ := ha
  obtain ⟨Fin, hFin⟩ : ∃ Fin : Nat → Nat → Act, Fin = fun g g' => (a'.put (some dA) (.pointer (some ⟨g, 0, none⟩))).put (some dB) (.pointer (some ⟨g', 0, none⟩)) := ⟨_, rfl⟩
  have evA : ∀ g g', (Fin g g').eval (.tmp dA) = .pointer (some ⟨g, 0, none⟩) := fun g g' => by
    rw [hFin]; simp [Act.eval, Act.put, hz1, Ne.symm hd]
  have evB : ∀ g g', (Fin g g').eval (.tmp dB) = .pointer (some ⟨g', 0, none⟩) := fun g g' => by
    rw [hFin]; simp [Act.eval, Act.put, hz2]
  have ex' : ∀ g g', (Fin g g').eval xA = .agg xs := fun g g' => by rw [hFin]; exact ex g g'
  have ey' : ∀ g g', (Fin g g').eval xB = .agg ys := fun g g' => by rw [hFin]; exact ey g g'
  have hcomm : ∀ g g', (a'.put (some dB) (.pointer (some ⟨g', 0, none⟩))).put (some dA) (.pointer (some ⟨g, 0, none⟩)) = Fin g g' := fun g g' => by
    rw [hFin]; exact (Act.put_comm a' _ _ (fun d e1 e2 => hd (by cases e1; cases e2; rfl))).symm
  have fills : ∀ g g', gOp P l.toArray (fun W => Below wB.heap.size wB W) (T2 wB.heap.size ty zs xs ys) m (m + 2) (gOp P l.toArray (fun W => Below wB.heap.size wB W) (T2 wB.heap.size ty zs xs ys) m (m + 3) (fun s a'' => ∀ w', Below wB.heap.size wB w' → T2 wB.heap.size ty zs xs ys s w' → Q .normal a'' w')) ⟨some g, some g', false, false⟩ (Fin g g') := fun g g' => by
    refine gOp_at o2 (by omega) ?_
    intro w1 hS1 hT1
    have q1 := hT1.a g rfl
    have q2 := hT1.b g' rfl
    have q3 := hT1.ne g g' rfl rfl
    refine ⟨⟨some g, some g', true, false⟩, undef, w1.setRow g xs, guard_wanted hgA _, .inr ⟨exec_store_row ty _ _ sA g xs (evA g g') (ex' g g') ty zs q1.2 ix zx ox, rfl⟩, below_setRow hS1 _ _ q1.1, ⟨?_, ?_, ?_⟩, ?_⟩
    · intro k hk; cases hk; exact ⟨q1.1, setRow_heap _ _ _ _ _ _ q1.2⟩
    · intro k hk; cases hk; exact ⟨q2.1, (setRow_other _ _ _ _ (fun e => q3 e.symm)).trans q2.2⟩
    · intro k k' hk hk'; cases hk; cases hk'; exact q3
    · rw [nA]
      refine gOp_at o3 (by omega) ?_
      intro w2 hS2 hT2
      have r1 := hT2.a g rfl
      have r2 := hT2.b g' rfl
      refine ⟨⟨some g, some g', true, true⟩, undef, w2.setRow g' ys, guard_wanted hgB _, .inr ⟨exec_store_row ty _ _ sB g' ys (evB g g') (ey' g g') ty zs r2.2 iy zy oy, rfl⟩, below_setRow hS2 _ _ r2.1, ⟨?_, ?_, ?_⟩, ?_⟩
      · intro k hk; cases hk; exact ⟨r1.1, (setRow_other _ _ _ _ q3).trans r1.2⟩
      · intro k hk; cases hk; exact ⟨r2.1, setRow_heap _ _ _ _ _ _ r2.2⟩
      · intro k k' hk hk'; cases hk; cases hk'; exact q3
      · rw [nB]
        intro w3 hS3 hT3
        have e := hQ g g' w3 hS3 (hT3.a g rfl).1 (hT3.b g' rfl).1 q3 (hT3.a g rfl).2 (hT3.b g' rfl).2
        rw [hFin]
        exact e
  refine ⟨?_, ?_⟩
  · refine gOp_at o0 (Nat.le_refl _) ?_
    intro w1 hS1 hT1
    refine ⟨⟨some w1.heap.size, none, false, false⟩, _, w1.alloc (.cells zs ty), guard_wanted gA _, .inl (aA _ w1), hS1.alloc hS1.size _, ⟨?_, (fun g h => by cases h), (fun g g' _ h => by cases h)⟩, ?_⟩
    · intro k hk; cases hk; exact ⟨hS1.size, heap_alloc_new _ _⟩
    · rw [eA]
      refine gOp_at o1 (by omega) ?_
      intro w2 hS2 hT2
      have q1 := hT2.a _ rfl
      refine ⟨⟨some w1.heap.size, some w2.heap.size, false, false⟩, _, w2.alloc (.cells zs ty), guard_wanted gB _, .inl (aB _ w2), hS2.alloc hS2.size _, ⟨?_, ?_, ?_⟩, ?_⟩
      · intro k hk; cases hk; exact ⟨q1.1, (Below.heap_alloc _ _ _ (Array.getElem?_eq_some_iff.1 q1.2).1).trans q1.2⟩
      · intro k hk; cases hk; exact ⟨hS2.size, heap_alloc_new _ _⟩
      · intro k k' hk hk'; cases hk; cases hk'; exact Nat.ne_of_lt (Array.getElem?_eq_some_iff.1 q1.2).1
      · rw [eB]
        have := fills w1.heap.size w2.heap.size
        rw [hFin] at this
        rw [hFin] at fills
        exact this
  · refine gOp_at o1 (by omega) ?_
    intro w1 hS1 hT1
    refine ⟨⟨none, some w1.heap.size, false, false⟩, _, w1.alloc (.cells zs ty), guard_wanted gB _, .inl (aB _ w1), hS1.alloc hS1.size _, ⟨(fun g h => by cases h), ?_, (fun g g' h => by cases h)⟩, ?_⟩
    · intro k hk; cases hk; exact ⟨hS1.size, heap_alloc_new _ _⟩
    · rw [eB]
      refine gOp_at o0 (Nat.le_refl _) ?_
      intro w2 hS2 hT2
      have q1 := hT2.b _ rfl
      refine ⟨⟨some w2.heap.size, some w1.heap.size, false, false⟩, _, w2.alloc (.cells zs ty), guard_wanted gA _, .inl (aA _ w2), hS2.alloc hS2.size _, ⟨?_, ?_, ?_⟩, ?_⟩
      · intro k hk; cases hk; exact ⟨hS2.size, heap_alloc_new _ _⟩
      · intro k hk; cases hk; exact ⟨q1.1, (Below.heap_alloc _ _ _ (Array.getElem?_eq_some_iff.1 q1.2).1).trans q1.2⟩
      · intro k k' hk hk'; cases hk; cases hk'; exact (Nat.ne_of_lt (Array.getElem?_eq_some_iff.1 q1.2).1).symm
      · rw [eA, hcomm]
        exact fills _ _
end
end Go.Proofs.YtgfimkeopohjaaaDoor.W

namespace Go.Proofs.YtgfimkeopohjaaaDoor
open Go Go.ChangeShapes Go.WideShapes Go.ChangeAt Go.RowKit

theorem cls_eq {x y : Cls} (h1 : x.id = y.id) (h2 : x.faces = y.faces) (h3 : x.slots = y.slots) (h4 : x.methods = y.methods) : x = y := by
  cases x; cases y; simp only at h1 h2 h3 h4; subst h1 h2 h3 h4; rfl
def zC : Array Value := #[.int .u8 0, .int .u8 0, .int .u8 0, .int .u8 0, .int .u8 0, .int .u8 0, .int .u8 0, .int .u8 0, .int .u8 0, .int .u8 0, .int .u8 0, .int .u8 0, .int .u8 0, .int .u8 0, .int .u8 0, .int .u8 0, .slice none 0 0, .int .i64 0, .slice none 0 0]
theorem clc_one {c : Cls} {vf vm : Value} (hf : vf.oneCell' = true) (hm : vm.oneCell' = true) : (clc c vf vm).toArray.all (·.oneCell') = true := by
  rw [Array.all_eq_true_iff_forall_mem]
  intro v hv
  simp [clc, u8l] at hv
  rcases hv with ⟨n, _, rfl⟩ | rfl | rfl | rfl
  · rfl
  · exact hf
  · rfl
  · exact hm
def SameP (w : World) (la lb : List Cls) (e : Ending) (w' : World) : Prop := ∃ r : Bool, e = .returned (.bool r) ∧ (r = true ↔ la = lb) ∧ Below w.heap.size w w'
set_option maxRecDepth 100000 in
set_option maxHeartbeats 8000000 in
theorem Same_any (la lb : List Cls) (aa ab : Option Addr) (ca cb na nb : Nat) (w : World) (ha : RwC w w.heap.size aa la) (hb : RwC w w.heap.size ab lb) (hna : na = la.length) (hnb : nb = lb.length) (hca : na ≤ ca) (hcb : nb ≤ cb) (hcm : ca ≤ 9223372036854775807) :
    Calls Tryd.prog 20 #[.agg #[.slice aa na ca], .agg #[.slice ab nb cb]] w (SameP w la lb) := by
  obtain ⟨w1, hw1⟩ : ∃ w1, w1 = (w.alloc (.cells #[.slice aa na ca] 24)).alloc (.cells #[.slice ab nb cb] 24) := ⟨_, rfl⟩
  have hb1 : Below w.heap.size w w1 := by rw [hw1]; exact ((Below.refl _ _).alloc (Nat.le_refl _) _).alloc (by simp) _
  have hx1 : Boxed w1 w.heap.size 24 (.slice aa na ca) := by rw [hw1]; exact (Boxed.new w _ _).alloc _
  have hy1 : Boxed w1 (w.heap.size + 1) 24 (.slice ab nb cb) := by
    have := Boxed.new (w.alloc (.cells #[.slice aa na ca] 24)) 24 (.slice ab nb cb)
    rw [World.size_alloc] at this
    rw [hw1]; exact this
  have HA := hid (ha.on hb1)
  have HB := hid (hb.on hb1)
  have HNA := hid hna
  have HNB := hid hnb
  have HB1 := hid hb1
  have HX1 := hid hx1
  have HY1 := hid hy1
  have HW := hid hw1
  have c1 := hx1.cell
  have c2 := hy1.cell
  clear ha hb hna hnb hw1 hb1 hx1 hy1
  by_cases hn : na = nb
  case neg =>
    have d1 : ((na : Int) != (nb : Int)) = true := by simp; omega
    have hne : la ≠ lb := fun e => hn (by rw [HNA.out, HNB.out, e])
    have HNE := hid hne
    clear hn hne
    go_enter Tryd.func20, Tryd.ntmps20
    go_upto_region 1 with (fail)
    change Code.wp _ _ _ _ ((w.alloc (.cells #[.slice aa na ca] 24)).alloc (.cells #[.slice ab nb cb] 24))
    rw [← HW.out]
    go_wp2
    go_ret
    exact ⟨false, rfl, ⟨(fun h => by cases h), fun h => (HNE.out h).elim⟩, HB1.out⟩
  subst hn
  have d1 : ((na : Int) != (na : Int)) = false := by simp
  go_enter Tryd.func20, Tryd.ntmps20
  go_upto_region 1 with (fail)
  change Code.wp _ _ _ _ ((w.alloc (.cells #[.slice aa na ca] 24)).alloc (.cells #[.slice ab na cb] 24))
  rw [← HW.out]
  go_wp2
  clear d1 c1 c2 HW
  go_loopw [5, 6, 7, 8, 9] (fun p _ _ _ _ wr => ∃ q : Nat, q ≤ na ∧ p = .int .i64 q ∧ RowKit.Hid (la.take q = lb.take q) ∧ RowKit.Hid (Below w1.heap.size w1 wr)) (fun p _ _ _ _ _ => na - (intOf p).toNat)
  case atStart => exact ⟨0, by omega, rfl, hid rfl, hid (Below.refl _ _)⟩
  case round =>
    obtain ⟨q, hq, rfl, HQ, HBr⟩ := hrel
    have c1 : wr.cell? ⟨w.heap.size, 0, none⟩ = some (.slice aa na ca) := Boxed.cell ((HBr.out.block _ HX1.out.lt).trans HX1.out)
    have c2 : wr.cell? ⟨w.heap.size + 1, 0, none⟩ = some (.slice ab na cb) := Boxed.cell ((HBr.out.block _ HY1.out.lt).trans HY1.out)
    by_cases hql : q < na
    · have hx : la[q]? = some (la[q]'(by have := HNA.out; omega)) := List.getElem?_eq_getElem _
      generalize (la[q]'(by have := HNA.out; omega)) = x at hx
      have hy : lb[q]? = some (lb[q]'(by have := HNB.out; omega)) := List.getElem?_eq_getElem _
      generalize (lb[q]'(by have := HNB.out; omega)) = y at hy
      obtain ⟨b, o, rfl, _⟩ := HA.out.at_ (by have := HNA.out; omega)
      obtain ⟨b2, o2, rfl, _⟩ := HB.out.at_ (by have := HNB.out; omega)
      obtain ⟨fx, mx, hat1, hc1⟩ := (HA.out.on HBr.out).rows b o rfl q x hx
      obtain ⟨fy, my, hat2, hc2⟩ := (HB.out.on HBr.out).rows b2 o2 rfl q y hy
      have HX := hid hx
      have HY := hid hy
      have HAT1 := hid hat1
      have HAT2 := hid hat2
      have HC1 := hid hc1
      have HC2 := hid hc2
      have HL1 := hid (clc_len (vf := fx) (vm := mx) hc1.id)
      have HL2 := hid (clc_len (vf := fy) (vm := my) hc2.id)
      have HI1 := hid (show (Tryd.prog.info? 38).map (·.size) = some (clc x fx mx).toArray.size by rw [List.size_toArray, HL1.out]; exact sizeC)
      have HI2 := hid (show (Tryd.prog.info? 38).map (·.size) = some (clc y fy my).toArray.size by rw [List.size_toArray, HL2.out]; exact sizeC)
      have HO1 := hid (show (clc x fx mx).toArray.all (·.oneCell') = true from clc_one (by obtain ⟨a, c, rfl, _⟩ := hc1.f; rfl) (by obtain ⟨a, c, rfl, _⟩ := hc1.m; rfl))
      have HO2 := hid (show (clc y fy my).toArray.all (·.oneCell') = true from clc_one (by obtain ⟨a, c, rfl, _⟩ := hc2.f; rfl) (by obtain ⟨a, c, rfl, _⟩ := hc2.m; rfl))
      clear hx hy hat1 hat2 hc1 hc2
      go_upto_region 6 with (fail)
      refine W.wp_region_two (wB := wr) 10 _ _ _ _ rfl 6 7 (.tmp 28) (.tmp 33) 38 zC (clc x fx mx).toArray (clc y fy my).toArray (by kernel_rfl) (by kernel_rfl) rfl rfl rfl rfl rfl rfl (by decide) rfl rfl rfl rfl ?aA ?aB HI1.out HI2.out (by show 19 = _; rw [List.size_toArray, HL1.out]) (by show 19 = _; rw [List.size_toArray, HL2.out]) HO1.out HO2.out (Below.refl _ _) ?_
      case aA => intro f W; go_simp; rfl
      case aB => intro f W; go_simp; rfl
      have HK := hid (fun (W : World) (hS : Below wr.heap.size wr W) => (show W.cell? ⟨w.heap.size, 0, none⟩ = some (.slice (some ⟨b, o, none⟩) na ca) ∧ W.cell? ⟨w.heap.size + 1, 0, none⟩ = some (.slice (some ⟨b2, o2, none⟩) na cb) from
        ⟨(World.cell?_of_block (hS.block _ (World.block_lt_of_cell? _ _ c1))).trans c1, (World.cell?_of_block (hS.block _ (World.block_lt_of_cell? _ _ c2))).trans c2⟩))
      clear c1 c2
      simp only [List.take_succ_cons, List.take_zero]
      repeat (first
        | ((with_reducible refine A.atS ⟨some 28, _, _, _, _, _⟩ ?_); refine A.wpSure_read (.agg (clc x fx mx).toArray) rfl (fun W hS => load_c rfl rfl (HAT1.out.below hS) HL1.out) ?_; simp only [Act.put, List.setIfInBounds_toArray, List.set_cons_zero, List.set_cons_succ])
        | ((with_reducible refine A.atS ⟨some 33, _, _, _, _, _⟩ ?_); refine A.wpSure_read (.agg (clc y fy my).toArray) rfl (fun W hS => load_c rfl rfl (HAT2.out.below hS) HL2.out) ?_; simp only [Act.put, List.setIfInBounds_toArray, List.set_cons_zero, List.set_cons_succ])
        | (refine' A.wpSure_value _ rfl _ _; rotate_left; (solve | (intro W; go_simp) | (intro W; go_simp; with_reducible rfl)); simp only [Act.put, List.setIfInBounds_toArray, List.set_cons_zero, List.set_cons_succ])
        | (refine' A.wpSure_read _ rfl _ _; rotate_left; (solve | (intro W hS; obtain ⟨k1, k2⟩ := HK.out W hS; clear hS; go_simp) | (intro W hS; obtain ⟨k1, k2⟩ := HK.out W hS; clear hS; go_simp; with_reducible rfl)); simp only [Act.put, List.setIfInBounds_toArray, List.set_cons_zero, List.set_cons_succ]))
      refine A.wpSure_end ⟨by simp, by simp, fun _ _ => rfl, fun _ _ => rfl, ?_⟩
      intro g g' w6 hb6 hg hg' hne hx6 hy6
      have HX6 := hid (show InC w6 g x fx mx from hx6)
      have HY6 := hid (show InC w6 g' y fy my from hy6)
      have HB6 := hid (HBr.out.trans (hb6.mono HBr.out.size))
      have HCX := hid (HC1.out.on hb6)
      have HCY := hid (HC2.out.on hb6)
      clear hb6 hg hg' hne hx6 hy6 HK HAT1 HAT2 HL1 HL2 HI1 HI2 HO1 HO2 HC1 HC2
      simp only [List.setIfInBounds_toArray, List.set_cons_zero, List.set_cons_succ]
      obtain ⟨af1, kf1, rfl, hF1, hk1, hm1⟩ := HCX.out.f
      obtain ⟨am1, km1, rfl, hM1, hk2, hm2⟩ := HCX.out.m
      obtain ⟨af2, kf2, rfl, hF2, hk3, hm3⟩ := HCY.out.f
      obtain ⟨am2, km2, rfl, hM2, hk4, hm4⟩ := HCY.out.m
      have HID1 := hid HCX.out.id
      have HID2 := hid HCY.out.id
      have HCI1 := hid (HX6.out.cid HID1.out)
      have HCI2 := hid (HY6.out.cid HID2.out)
      have HF1 := hid hF1
      have HF2 := hid hF2
      have HM1 := hid hM1
      have HM2 := hid hM2
      have x16 := HX6.out.cf HID1.out
      have x17 := HX6.out.cs HID1.out
      have x18 := HX6.out.cm HID1.out
      have y16 := HY6.out.cf HID2.out
      have y17 := HY6.out.cs HID2.out
      have y18 := HY6.out.cm HID2.out
      clear hF1 hF2 hM1 hM2
      have HEX := hid (show la = lb → x = y from fun h => by
        have h1 := HX.out
        rw [h, HY.out] at h1
        cases h1
        rfl)
      obtain ⟨n1, hn1⟩ : ∃ n, n = x.faces.length := ⟨_, rfl⟩
      obtain ⟨n2, hn2⟩ : ∃ n, n = y.faces.length := ⟨_, rfl⟩
      obtain ⟨n3, hn3⟩ : ∃ n, n = x.methods.length := ⟨_, rfl⟩
      obtain ⟨n4, hn4⟩ : ∃ n, n = y.methods.length := ⟨_, rfl⟩
      obtain ⟨s1, hs1⟩ : ∃ s, s = x.slots := ⟨_, rfl⟩
      obtain ⟨s2, hs2⟩ : ∃ s, s = y.slots := ⟨_, rfl⟩
      rw [← hn1] at x16 hk1 HX6 HCX ⊢
      rw [← hn3] at x18 hk2 HX6 HCX ⊢
      rw [← hn2] at y16 hk3 HY6 HCY ⊢
      rw [← hn4] at y18 hk4 HY6 HCY ⊢
      rw [← hs1] at x17
      rw [← hs2] at y17
      have N1 := hid hn1
      have N2 := hid hn2
      have N3 := hid hn3
      have N4 := hid hn4
      have S1 := hid hs1
      have S2 := hid hs2
      clear hn1 hn2 hn3 hn4 hs1 hs2
      have he := fun W => eq28 x.id y.id HID1.out HID2.out W
      have hgd := guard28
      by_cases hid1 : x.id = y.id
      case neg =>
        have e1 : (x.id == y.id) = false := by simpa using hid1
        rw [e1] at he
        have HNE := hid (show la ≠ lb from fun h => hid1 (by rw [HEX.out h]))
        clear hid1 e1
        go_wp2_with (first
          | ((with_reducible refine at_op ⟨some 35, _, _, _, _, _⟩ ?_); refine wpList_run rfl _ (load_id rfl rfl HCI1.out HID1.out) ?_)
          | ((with_reducible refine at_op ⟨some 37, _, _, _, _, _⟩ ?_); refine wpList_run rfl _ (load_id rfl rfl HCI2.out HID2.out) ?_)
          | fail)
        go_ret
        exact ⟨false, rfl, ⟨(fun h => by cases h), fun h => (HNE.out h).elim⟩, HB1.out.trans (HB6.out.mono HB1.out.size)⟩
      have e1 : (x.id == y.id) = true := by simpa using hid1
      rw [e1] at he
      have HI := hid hid1
      clear hid1 e1
      by_cases h2 : s1 = s2
      case neg =>
        have d2 : (s1 != s2) = true := by simpa using h2
        have HNE := hid (show la ≠ lb from fun h => h2 (by rw [S1.out, S2.out, HEX.out h]))
        clear h2
        go_wp2_with (first
          | ((with_reducible refine at_op ⟨some 35, _, _, _, _, _⟩ ?_); refine wpList_run rfl _ (load_id rfl rfl HCI1.out HID1.out) ?_)
          | ((with_reducible refine at_op ⟨some 37, _, _, _, _, _⟩ ?_); refine wpList_run rfl _ (load_id rfl rfl HCI2.out HID2.out) ?_)
          | fail)
        go_ret
        exact ⟨false, rfl, ⟨(fun h => by cases h), fun h => (HNE.out h).elim⟩, HB1.out.trans (HB6.out.mono HB1.out.size)⟩
      subst h2
      have d2 : (s1 != s1) = false := by simp
      by_cases h3 : n1 = n2
      case neg =>
        have d3 : ((n1 : Int) != (n2 : Int)) = true := by simp; omega
        have HNE := hid (show la ≠ lb from fun h => h3 (by rw [N1.out, N2.out, HEX.out h]))
        clear h3
        go_wp2_with (first
          | ((with_reducible refine at_op ⟨some 35, _, _, _, _, _⟩ ?_); refine wpList_run rfl _ (load_id rfl rfl HCI1.out HID1.out) ?_)
          | ((with_reducible refine at_op ⟨some 37, _, _, _, _, _⟩ ?_); refine wpList_run rfl _ (load_id rfl rfl HCI2.out HID2.out) ?_)
          | fail)
        go_ret
        exact ⟨false, rfl, ⟨(fun h => by cases h), fun h => (HNE.out h).elim⟩, HB1.out.trans (HB6.out.mono HB1.out.size)⟩
      subst h3
      have d3 : ((n1 : Int) != (n1 : Int)) = false := by simp
      by_cases h4 : n3 = n4
      case neg =>
        have d4 : ((n3 : Int) != (n4 : Int)) = true := by simp; omega
        have HNE := hid (show la ≠ lb from fun h => h4 (by rw [N3.out, N4.out, HEX.out h]))
        clear h4
        go_wp2_with (first
          | ((with_reducible refine at_op ⟨some 35, _, _, _, _, _⟩ ?_); refine wpList_run rfl _ (load_id rfl rfl HCI1.out HID1.out) ?_)
          | ((with_reducible refine at_op ⟨some 37, _, _, _, _, _⟩ ?_); refine wpList_run rfl _ (load_id rfl rfl HCI2.out HID2.out) ?_)
          | fail)
        go_ret
        exact ⟨false, rfl, ⟨(fun h => by cases h), fun h => (HNE.out h).elim⟩, HB1.out.trans (HB6.out.mono HB1.out.size)⟩
      subst h4
      have d4 : ((n3 : Int) != (n3 : Int)) = false := by simp
      go_wp2_with (first
        | ((with_reducible refine at_op ⟨some 35, _, _, _, _, _⟩ ?_); refine wpList_run rfl _ (load_id rfl rfl HCI1.out HID1.out) ?_)
        | ((with_reducible refine at_op ⟨some 37, _, _, _, _, _⟩ ?_); refine wpList_run rfl _ (load_id rfl rfl HCI2.out HID2.out) ?_)
        | fail)
      clear he hgd d2 d3 d4 x16 x17 x18 y16 y17 y18
      have HK := hid (fun (W : World) (hS : Fr (fun _ => False) w6 W) => (show W.cell? ⟨g, 16, none⟩ = some (.slice af1 n1 kf1) ∧ W.cell? ⟨g', 16, none⟩ = some (.slice af2 n1 kf2) from
        ⟨(HX6.out.on (hS.below (Nat.le_refl _) (fun _ h => h.elim))).cf HID1.out, (HY6.out.on (hS.below (Nat.le_refl _) (fun _ h => h.elim))).cf HID2.out⟩))
      go_loopw [8] (fun p wy => ∃ k : Nat, k ≤ n1 ∧ p = .int .i64 k ∧ RowKit.Hid (x.faces.take k = y.faces.take k) ∧ RowKit.Hid (Fr (fun _ => False) w6 wy)) (fun p _ => n1 - (intOf p).toNat)
      case atStart => exact ⟨0, by omega, rfl, hid rfl, hid (Fr.refl _ _)⟩
      case round =>
        obtain ⟨k, hk, rfl, HKQ, HFr⟩ := hrel
        obtain ⟨z1, z2⟩ := HK.out wr HFr.out
        by_cases hkn : k < n1
        · have hx : x.faces[k]? = some (x.faces[k]'(by have := N1.out; omega)) := List.getElem?_eq_getElem _
          generalize (x.faces[k]'(by have := N1.out; omega)) = f1 at hx
          have hy : y.faces[k]? = some (y.faces[k]'(by have := N2.out; omega)) := List.getElem?_eq_getElem _
          generalize (y.faces[k]'(by have := N2.out; omega)) = f2 at hy
          obtain ⟨b3, o3, rfl, _⟩ := HF1.out.some (by have := N1.out; omega)
          obtain ⟨b4, o4, rfl, _⟩ := HF2.out.some (by have := N2.out; omega)
          have HG1 := hid (fun (W : World) (hS : Fr (fun _ => False) w6 W) => AtL.fr (HF1.out.face hx) hS)
          have HG2 := hid (fun (W : World) (hS : Fr (fun _ => False) w6 W) => AtL.fr (HF2.out.face hy) hS)
          have HL1 := hid (HF1.out.len f1 (List.mem_of_getElem? hx))
          have HL2 := hid (HF2.out.len f2 (List.mem_of_getElem? hy))
          have HX2 := hid hx
          have HY2 := hid hy
          clear hx hy
          have he := fun W => eqFace f1 f2 HL1.out HL2.out W
          have hgd := guard30
          by_cases hff : f1 = f2
          · rw [eqF_iff.2 hff] at he
            have HFF := hid hff
            clear hff
            go_upto_region 12 with (fail)
            clear z1 z2
            refine D.wp_region_mix [0, 1, 0, 0, 1, 0, 1, 0, 0, 1, 0] (fun W => Fr (fun _ => False) w6 W) (by kernel_rfl) (by kernel_rfl) HFr.out.drew ?_
            repeat (first
              | (refine C.wpMix_read _ rfl rfl (fun W hS => load_face rfl rfl (HG1.out W hS) HL1.out) ?_; simp only [Act.put, List.setIfInBounds_toArray, List.set_cons_zero, List.set_cons_succ])
              | (refine C.wpMix_read _ rfl rfl (fun W hS => load_face rfl rfl (HG2.out W hS) HL2.out) ?_; simp only [Act.put, List.setIfInBounds_toArray, List.set_cons_zero, List.set_cons_succ])
              | (refine' C.wpMix_read _ rfl rfl _ _; rotate_left; (solve | (intro W hS; obtain ⟨k1, k2⟩ := HK.out W hS; clear hS; go_simp) | (intro W hS; obtain ⟨k1, k2⟩ := HK.out W hS; clear hS; go_simp; with_reducible rfl)); simp only [Act.put, List.setIfInBounds_toArray, List.set_cons_zero, List.set_cons_succ])
              | (refine' C.wpMix_value _ rfl rfl _ _; rotate_left; (solve | (intro W; go_simp) | (intro W; go_simp; with_reducible rfl)); simp only [Act.put, List.setIfInBounds_toArray, List.set_cons_zero, List.set_cons_succ]))
            refine C.wpMix_end ?_
            clear he hgd
            go_wp2
            go_roundw
            case rel => exact ⟨k + 1, by omega, by go_num, hid (by rw [List.take_add_one, List.take_add_one, HKQ.out, HX2.out, HY2.out, HFF.out]), hid HFr.out.drew⟩
            case measure => simp [intOf]; omega
          · have e1 : eqF f1 f2 = false := by
              cases h : eqF f1 f2 with
              | false => rfl
              | true => exact (hff (eqF_iff.1 h)).elim
            rw [e1] at he
            have HNE := hid (show la ≠ lb from fun h => hff (by
              have h1 := HX2.out
              rw [HEX.out h, HY2.out] at h1
              cases h1; rfl))
            clear hff e1
            go_upto_region 12 with (fail)
            clear z1 z2
            refine D.wp_region_mix [0, 1, 0, 0, 1, 0, 1, 0, 0, 1, 0] (fun W => Fr (fun _ => False) w6 W) (by kernel_rfl) (by kernel_rfl) HFr.out.drew ?_
            repeat (first
              | (refine C.wpMix_read _ rfl rfl (fun W hS => load_face rfl rfl (HG1.out W hS) HL1.out) ?_; simp only [Act.put, List.setIfInBounds_toArray, List.set_cons_zero, List.set_cons_succ])
              | (refine C.wpMix_read _ rfl rfl (fun W hS => load_face rfl rfl (HG2.out W hS) HL2.out) ?_; simp only [Act.put, List.setIfInBounds_toArray, List.set_cons_zero, List.set_cons_succ])
              | (refine' C.wpMix_read _ rfl rfl _ _; rotate_left; (solve | (intro W hS; obtain ⟨k1, k2⟩ := HK.out W hS; clear hS; go_simp) | (intro W hS; obtain ⟨k1, k2⟩ := HK.out W hS; clear hS; go_simp; with_reducible rfl)); simp only [Act.put, List.setIfInBounds_toArray, List.set_cons_zero, List.set_cons_succ])
              | (refine' C.wpMix_value _ rfl rfl _ _; rotate_left; (solve | (intro W; go_simp) | (intro W; go_simp; with_reducible rfl)); simp only [Act.put, List.setIfInBounds_toArray, List.set_cons_zero, List.set_cons_succ]))
            refine C.wpMix_end ?_
            clear he hgd
            go_wp2
            go_ret
            exact ⟨false, rfl, ⟨(fun h => by cases h), fun h => (HNE.out h).elim⟩, HB1.out.trans ((HB6.out.trans ((HFr.out.drew.below (Nat.le_refl _) (fun _ h => h.elim)).mono HB6.out.size)).mono HB1.out.size)⟩
        · obtain rfl : k = n1 := by omega
          have hz : x.faces = y.faces := by
            have h1 := HKQ.out
            rw [List.take_of_length_le (by rw [← N1.out]; exact Nat.le_refl _), List.take_of_length_le (by rw [← N2.out]; exact Nat.le_refl _)] at h1
            exact h1
          have HZF := hid hz
          clear hz
          go_wp2
          clear z1 z2
          have hB6 : Below w6.heap.size w6 wr := HFr.out.below (Nat.le_refl _) (fun _ h => h.elim)
          have HBM0 := hid hB6
          have HKM := hid (fun (W : World) (hS : Below w6.heap.size w6 W) => (show W.cell? ⟨g, 18, none⟩ = some (.slice am1 n3 km1) ∧ W.cell? ⟨g', 18, none⟩ = some (.slice am2 n3 km2) from
            ⟨(HX6.out.on hS).cm HID1.out, (HY6.out.on hS).cm HID2.out⟩))
          clear hB6 HK
          go_loopw [9] (fun p wy => ∃ j : Nat, j ≤ n3 ∧ p = .int .i64 j ∧ RowKit.Hid (x.methods.take j = y.methods.take j) ∧ RowKit.Hid (Below w6.heap.size w6 wy)) (fun p _ => n3 - (intOf p).toNat)
          case atStart => exact ⟨0, by omega, rfl, hid rfl, HBM0⟩
          case round =>
            obtain ⟨j, hj, rfl, HJQ, HBm⟩ := hrel
            obtain ⟨z1, z2⟩ := HKM.out wr HBm.out
            by_cases hjn : j < n3
            · have hx : x.methods[j]? = some (x.methods[j]'(by have := N3.out; omega)) := List.getElem?_eq_getElem _
              generalize (x.methods[j]'(by have := N3.out; omega)) = l1 at hx
              have hy : y.methods[j]? = some (y.methods[j]'(by have := N4.out; omega)) := List.getElem?_eq_getElem _
              generalize (y.methods[j]'(by have := N4.out; omega)) = l2 at hy
              obtain ⟨b3, o3, rfl, _⟩ := HM1.out.at_ (by have := N3.out; omega)
              obtain ⟨b4, o4, rfl, _⟩ := HM2.out.at_ (by have := N4.out; omega)
              obtain ⟨v1, hv1, al1, cl1, rfl, hr1, hc1, hd1, _⟩ := HM1.out.rows b3 o3 rfl j l1 hx
              obtain ⟨v2, hv2, al2, cl2, rfl, hr2, hc2, hd2, _⟩ := HM2.out.rows b4 o4 rfl j l2 hy
              have HV := hid (fun (W : World) (hS : Below w6.heap.size w6 W) => (show W.cell? ⟨b3, o3 + j, none⟩ = some (.slice al1 l1.length cl1) ∧ W.cell? ⟨b4, o4 + j, none⟩ = some (.slice al2 l2.length cl2) from
                ⟨(World.cell?_of_block (hS.block b3 (World.block_lt_of_cell? _ _ hv1))).trans hv1, (World.cell?_of_block (hS.block b4 (World.block_lt_of_cell? _ _ hv2))).trans hv2⟩))
              have HSC := hid (fun (W : World) (hS : Below w6.heap.size w6 W) => SameCode_any l1 l2 al1 al2 cl1 cl2 l1.length l2.length W (hr1.on hS) (hr2.on hS) rfl rfl hc1 hc2 hd1)
              have HX3 := hid hx
              have HY3 := hid hy
              clear hx hy hv1 hv2 hr1 hr2 hc1 hc2 hd1 hd2
              go_upto_region 17 with (fail)
              clear z1 z2
              refine D.wp_region_mix [0, 1, 0, 0, 1, 0, 1, 0, 0, 1, 3, 0] (fun W => Below w6.heap.size w6 W) (by kernel_rfl) (by kernel_rfl) HBm.out.drew ?_
              repeat (first
                | (refine' C.wpMix_read _ rfl rfl _ _; rotate_left; (solve | (intro W hS; obtain ⟨k1, k2⟩ := HKM.out W hS; obtain ⟨k3, k4⟩ := HV.out W hS; clear hS; go_simp) | (intro W hS; obtain ⟨k1, k2⟩ := HKM.out W hS; obtain ⟨k3, k4⟩ := HV.out W hS; clear hS; go_simp; with_reducible rfl)); simp only [Act.put, List.setIfInBounds_toArray, List.set_cons_zero, List.set_cons_succ])
                | (refine' C.wpMix_value _ rfl rfl _ _; rotate_left; (solve | (intro W; go_simp) | (intro W; go_simp; with_reducible rfl)); simp only [Act.put, List.setIfInBounds_toArray, List.set_cons_zero, List.set_cons_succ]))
              refine C.wpMix_call 27 #[.slice al1 l1.length cl1, .slice al2 l2.length cl2] (by decide) rfl (by go_simp) ?_
              refine (HSC.out _ HBm.out.drew).mono ?_
              rintro e w8 ⟨r, rfl, hr, hb8⟩
              have HB8 := hid (HBm.out.drew.trans (hb8.mono HBm.out.drew.size))
              have HR := hid hr
              clear hb8 hr HSC
              refine ⟨_, rfl, (fun h => by cases h), ?_⟩
              simp only [Act.put, List.setIfInBounds_toArray, List.set_cons_zero, List.set_cons_succ]
              cases r with
              | true =>
                repeat (first
                  | (refine' C.wpMix_value _ rfl rfl _ _; rotate_left; (solve | (intro W; go_simp) | (intro W; go_simp; with_reducible rfl)); simp only [Act.put, List.setIfInBounds_toArray, List.set_cons_zero, List.set_cons_succ]))
                refine C.wpMix_end ?_
                have hll := HR.out.1 rfl
                have HLL := hid hll
                clear hll
                go_wp2
                go_roundw
                case rel => exact ⟨j + 1, by omega, by go_num, hid (by rw [List.take_add_one, List.take_add_one, HJQ.out, HX3.out, HY3.out, HLL.out]), HB8⟩
                case measure => simp [intOf]; omega
              | false =>
                repeat (first
                  | (refine' C.wpMix_value _ rfl rfl _ _; rotate_left; (solve | (intro W; go_simp) | (intro W; go_simp; with_reducible rfl)); simp only [Act.put, List.setIfInBounds_toArray, List.set_cons_zero, List.set_cons_succ]))
                refine C.wpMix_end ?_
                have HNE := hid (show la ≠ lb from fun h => by
                  have h1 := HX3.out
                  rw [HEX.out h, HY3.out] at h1
                  cases h1
                  have := HR.out.2 rfl
                  cases this)
                go_wp2
                go_ret
                exact ⟨false, rfl, ⟨(fun h => by cases h), fun h => (HNE.out h).elim⟩, HB1.out.trans ((HB6.out.trans (HB8.out.mono HB6.out.size)).mono HB1.out.size)⟩
            · obtain rfl : j = n3 := by omega
              have hzm : x.methods = y.methods := by
                have h1 := HJQ.out
                rw [List.take_of_length_le (by rw [← N3.out]; exact Nat.le_refl _), List.take_of_length_le (by rw [← N4.out]; exact Nat.le_refl _)] at h1
                exact h1
              have hxy : x = y := cls_eq HI.out HZF.out (by rw [← S1.out, ← S2.out]) hzm
              have HXY := hid hxy
              clear hzm hxy
              go_wp2
              go_roundw
              case rel => exact ⟨q + 1, by omega, by go_num, hid (by rw [List.take_add_one, List.take_add_one, HQ.out, HX.out, HY.out, HXY.out]), hid (HB6.out.trans (HBm.out.mono HB6.out.size))⟩
              case measure => simp [intOf]; omega
    · obtain rfl : q = na := by omega
      have hz : la = lb := by
        have h1 := HQ.out
        rw [List.take_of_length_le (by rw [← HNA.out]; exact Nat.le_refl _), List.take_of_length_le (by rw [← HNB.out]; exact Nat.le_refl _)] at h1
        exact h1
      have HZ := hid hz
      clear hz
      go_wp2
      go_ret
      exact ⟨true, rfl, ⟨fun _ => HZ.out, fun _ => rfl⟩, HB1.out.trans (HBr.out.mono HB1.out.size)⟩
end Go.Proofs.YtgfimkeopohjaaaDoor
