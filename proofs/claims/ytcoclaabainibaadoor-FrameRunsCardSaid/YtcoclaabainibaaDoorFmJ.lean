/- FmG FmH FmI FmJ in one -/
import Derived.Test.YtcoclaabainibaaDoorFmF
import Derived.Test.YtcoclaabainibaaDoorCkE
import Derived.Test.YtcoclaabainibaaDoorEq
import Derived.Test.YtcoclaabainibaaDoorMemX
import Derived.Test.YtcoclaabainibaaDoorMixG
import Derived.Sort.CutIn
import Derived.Sort.QuietIn
namespace Go.Proofs.YtcoclaabainibaaDoor
open Go Go.ChangeShapes Go.WideShapes Go.ChangeAt Go.RowKit

def fs0 (ls : List Ins) (arg : Int) : Fs := ⟨ls, arg, 0, [], false, false⟩
theorem check_err (ls : List Ins) (s : Int) : (checkP ls s).2.2 = (heightP ls s).2.2 := by
  unfold checkP
  split
  · rename_i h; exact h.symm
  · rfl
theorem fs0_ok {ls : List Ins} (arg : Int) (h : (checkP ls 8).2.2 = 0) : FsR (fs0 ls arg) := by
  rw [check_err] at h
  have hr := right_of h
  have h1 := hr.1
  exact ⟨⟨_, hr, fun _ => ⟨h1, (right_at hr h1 (List.getElem?_eq_getElem h1)).first rfl⟩⟩, by show 0 < 32; omega, fun h => (by cases h), Nat.zero_le 8⟩
def NwP (w : World) (ls : List Ins) (arg : Int) (e : Ending) (w' : World) : Prop := Below w.heap.size w w' ∧
  (if (checkP ls 8).2.2 = 0 then ∃ p S qv sv, e = .returned (.tuple #[.pointer (some ⟨p, 0, none⟩), .int .i64 0]) ∧ (∀ k, S k → w.heap.size ≤ k) ∧ FmW w' S p (fs0 ls arg) qv sv else e = .returned (.tuple #[.pointer none, .int .i64 (checkP ls 8).2.2]))
set_option maxRecDepth 100000 in
set_option maxHeartbeats 4000000 in
theorem New_any (ls : List Ins) (arg : Int) (ad : Option Addr) (N c : Nat) (w : World) (hT : TabB w) (hok : ∀ x ∈ ls, InsOk x) (hR : RwI w w.heap.size ad ls) (hN : N = ls.length) (hNc : N ≤ c) (hc : c ≤ 9223372036854775807) :
    Calls Tryd.prog 9 #[.slice ad N c, iv arg] w (NwP w ls arg) := by
  have HCK := hid (Check_any ls 8 ad N c w hT hok (by unfold J64; decide) hR hN hNc hc)
  have hlen : (checkP ls 8).2.2 = 0 → ls.length ≤ 32 := fun h => by rw [check_err] at h; exact (right_of h).2.1
  have HLEN := hid hlen
  have HR := hid hR
  have HN := hid hN
  unfold NwP
  generalize checkP ls 8 = k at *
  obtain ⟨k1, k2, k3⟩ := k
  dsimp only at HCK HLEN ⊢
  clear hT hok hR hN hlen
  by_cases h0 : k3 = 0
  · subst h0
    have HCL := hid (fun (W : World) (hb : Below w.heap.size w W) => CloneI_any W ad c N ls HN.out (HR.out.on hb) (by have := HLEN.out rfl; rw [HN.out]; omega))
    simp only [if_true]
    go_enter Tryd.func9, Tryd.ntmps9
    go_upto_region 4 with (first
      | (go_at_call 17; refine HCK.out.mono ?_; rintro e w2 ⟨rfl, hb2⟩; have HB2 := hid hb2; have HC2 := hid (HCL.out w2 hb2); clear hb2)
      | fail)
    go_wp2_with (first
      | (go_at_call 18; refine HC2.out.mono ?_; rintro e w3 ⟨u, rfl, hu⟩; obtain ⟨ua, uc, rfl⟩ := own_form hu.1; have HU := hid hu; clear hu)
      | fail)
    go_ret2
    have hb3 : Below w.heap.size w w3 := HB2.out.trans (HU.out.2.mono HB2.out.size)
    have hb4 : Below w.heap.size w (w3.alloc (.cells #[.slice ua ls.length uc, iv arg, .int .i64 0, .slice none 0 0, .bool false] TFm)) := hb3.alloc hb3.size _
    refine ⟨hb4, w3.heap.size, (fun k => w2.heap.size ≤ k ∧ k < w3.heap.size + 1), .slice ua ls.length uc, .slice none 0 0, rfl, fun k hk => Nat.le_trans HB2.out.size hk.1, heap_alloc_new _ _, .inr ⟨rfl, (own_base (Nat.zero_le _) HU.out.1).alloc _⟩, World.ownsRow_nil _ _ _ _, ⟨HU.out.2.size, by omega⟩, fun k hk => ?_, fun k hk => (by cases hk), fun k hk => by simp; omega⟩
    have := HU.out.1.lt k hk
    exact ⟨this.1, by omega⟩
  · simp only [if_neg h0]
    have d0 : (k3 != 0) = true := by simpa using h0
    clear h0
    go_enter Tryd.func9, Tryd.ntmps9
    go_wp2_with (first
      | (go_at_call 17; refine HCK.out.mono ?_; rintro e w2 ⟨rfl, hb2⟩; have HB2 := hid hb2; clear hb2)
      | fail)
    go_ret2
    exact ⟨HB2.out, rfl⟩
/-! Events. -/
theorem map5E {α β : Type} {g : α → β} {fs : List α} {a0 a1 a2 a3 a4 : β} (h : fs.map g = [a0, a1, a2, a3, a4]) : ∃ f0 f1 f2 f3 f4, fs = [f0, f1, f2, f3, f4] ∧ g f0 = a0 ∧ g f1 = a1 ∧ g f2 = a2 ∧ g f3 = a3 ∧ g f4 = a4 := by
  rcases fs with _ | ⟨f0, _ | ⟨f1, _ | ⟨f2, _ | ⟨f3, _ | ⟨f4, _ | ⟨f5, fs⟩⟩⟩⟩⟩⟩
  all_goals simp at h
  obtain ⟨h0, h1, h2, h3, h4⟩ := h
  exact ⟨f0, f1, f2, f3, f4, rfl, h0, h1, h2, h3, h4⟩
set_option maxRecDepth 100000 in
theorem fieldsE : (Tryd.prog.fieldsOf TEv).toList.map (fun f => (f.name, f.type, f.offset)) = [("Kind", 3, 0), ("Slot", 3, 1), ("Method", 3, 2), ("N", 2, 3), ("Code", 26, 4)] := by kernel_rfl
set_option maxRecDepth 100000 in
theorem partE_0 (x : Ev) (w : World) : (part 3 (evA x) 0).run Tryd.prog w = .ok (.int .i64 x.kind) w := by simp [part, isAgg, run_underlying Tryd.underlying3, evA]
set_option maxRecDepth 100000 in
theorem partE_1 (x : Ev) (w : World) : (part 3 (evA x) 1).run Tryd.prog w = .ok (.int .i64 x.slot) w := by simp [part, isAgg, run_underlying Tryd.underlying3, evA]
set_option maxRecDepth 100000 in
theorem partE_2 (x : Ev) (w : World) : (part 3 (evA x) 2).run Tryd.prog w = .ok (.int .i64 x.meth) w := by simp [part, isAgg, run_underlying Tryd.underlying3, evA]
set_option maxRecDepth 100000 in
theorem partE_3 (x : Ev) (w : World) : (part 2 (evA x) 3).run Tryd.prog w = .ok (.int .i64 x.n) w := by simp [part, isAgg, run_underlying Tryd.underlying2, evA]
set_option maxRecDepth 100000 in
theorem partE_4 (x : Ev) (w : World) : (part 26 (evA x) 4).run Tryd.prog w = .ok (.int .i64 x.code) w := by simp [part, isAgg, run_underlying Tryd.underlying26, evA]
set_option maxRecDepth 100000 in
theorem guardE (op : BinOp) (a b : Operand) (xs ys : Array Value) (W : World) : (eqGuard op TEv a b (.agg xs) (.agg ys)).run Tryd.prog W = .ok () W := run_eqGuard_agg W op TEv a b xs ys (by kernel_rfl)
theorem eqE_step {P : Program} {d : Nat} {xs ys : Array Value} {f : Field} {fs : List Field} {w : World} {a b : Value} {r s : Bool} {nm : String} {ty : TypeId} {off : Nat} (hnm : f.name = nm) (hty : f.type = ty) (hoff : f.offset = off) (hn : nm ≠ "_") (ha : (part ty xs off).run P w = .ok a w) (hb : (part ty ys off).run P w = .ok b w) (he : (Op.equalIn d ty a b).run P w = .ok r w)
    (hs : (Op.eqFields d xs ys fs).run P w = .ok s w) : (Op.eqFields d xs ys (f :: fs)).run P w = .ok (r && s) w := by
  rw [Op.eqFields, hnm, hty, hoff, if_pos hn]
  simp only [Sem.run_bind, ha, hb, he, Result.andThen_ok]
  cases r
  · simp
  · simpa using hs
/-- Two events held against each other. -/
def eqE (x y : Ev) : Bool := x.kind == y.kind && (x.slot == y.slot && (x.meth == y.meth && (x.n == y.n && (x.code == y.code && true))))
theorem eqE_iff {x y : Ev} : eqE x y = true ↔ x = y := by
  obtain ⟨a, b, c, d, e⟩ := x
  obtain ⟨a', b', c', d', e'⟩ := y
  simp [eqE]
set_option maxRecDepth 100000 in
theorem eqEv2 (x y : Ev) (w : World) : (Op.equalIn 10000 TEv (.agg (evA x)) (.agg (evA y))).run Tryd.prog w = .ok (eqE x y) w := by
  rw [run_equalIn_struct w 9999 TEv _ _ (by kernel_rfl) (by kernel_rfl)]
  have hf := fieldsE
  generalize (Tryd.prog.fieldsOf TEv).toList = fs at hf
  have e : ∀ v u : Int, (Op.equalIn 9999 3 (.int .i64 v) (.int .i64 u)).run Tryd.prog w = .ok (v == u) w := fun v u =>
    run_equalIn_int (P := Tryd.prog) w 9998 3 .i64 .i64 v u Tryd.underlying3
  have eL : ∀ v u : Int, (Op.equalIn 9999 2 (.int .i64 v) (.int .i64 u)).run Tryd.prog w = .ok (v == u) w := fun v u =>
    run_equalIn_int (P := Tryd.prog) w 9998 2 .i64 .i64 v u Tryd.underlying2
  have eN : ∀ v u : Int, (Op.equalIn 9999 26 (.int .i64 v) (.int .i64 u)).run Tryd.prog w = .ok (v == u) w := fun v u =>
    run_equalIn_int (P := Tryd.prog) w 9998 26 .i64 .i64 v u Tryd.underlying26
  obtain ⟨f0, f1, f2, f3, f4, rfl, g0, g1, g2, g3, g4⟩ := map5E hf
  clear hf
  simp only [Prod.mk.injEq] at g0 g1 g2 g3 g4
  obtain ⟨n0, t0, o0⟩ := g0
  obtain ⟨n1, t1, o1⟩ := g1
  obtain ⟨n2, t2, o2⟩ := g2
  obtain ⟨n3, t3, o3⟩ := g3
  obtain ⟨n4, t4, o4⟩ := g4
  have hfin : (Op.eqFields 9999 (evA x) (evA y) []).run Tryd.prog w = .ok true w := by simp [Op.eqFields]
  have h4 := eqE_step n4 t4 o4 (by simp) (partE_4 x w) (partE_4 y w) (eN _ _) hfin
  have h3 := eqE_step n3 t3 o3 (by simp) (partE_3 x w) (partE_3 y w) (eL _ _) h4
  have h2 := eqE_step n2 t2 o2 (by simp) (partE_2 x w) (partE_2 y w) (e _ _) h3
  have h1 := eqE_step n1 t1 o1 (by simp) (partE_1 x w) (partE_1 y w) (e _ _) h2
  exact eqE_step n0 t0 o0 (by simp) (partE_0 x w) (partE_0 y w) (e _ _) h1
theorem eqEv (x : Ev) (w : World) : (Op.equalIn 10000 TEv (.agg (evA x)) (.agg (evA x))).run Tryd.prog w = .ok true w := by
  have h := eqEv2 x x w
  rw [eqE_iff.2 rfl] at h
  exact h
/-- Two events, held against each other. -/
theorem exec_eqEv {o : Oper} {f : Operand → Value} {W : World} {a b : Operand} {x y : Ev} (ho : o.op = .binOp .eql TEv a b TEv) (hx : f a = .agg (evA x)) (hy : f b = .agg (evA y)) : (execOp f o).run Tryd.prog W = .ok (.value (.bool (eqE x y))) W := by
  have h1 := eqEv2 x y
  have h2 := guardE
  unfold execOp
  simp only [ho, hx, hy]
  go_simp
theorem exec_neEv {o : Oper} {f : Operand → Value} {W : World} {a b : Operand} {x y : Ev} (ho : o.op = .binOp .neq TEv a b TEv) (hx : f a = .agg (evA x)) (hy : f b = .agg (evA y)) : (execOp f o).run Tryd.prog W = .ok (.value (.bool (!eqE x y))) W := by
  have h1 := eqEv2 x y
  have h2 := guardE
  unfold execOp
  simp only [ho, hx, hy]
  go_simp
/-- An operation that loads an event. -/
theorem load_ev {o : Oper} {f : Operand → Value} {p : Operand} {g : Nat} {x : Ev} {W : World} (ho : o.op = .load TEv p) (hp : f p = .pointer (some ⟨g, 0, none⟩)) (h : W.heap[g]? = some (.cells (evA x) TEv (0, 0))) : (execOp f o).run Tryd.prog W = .ok (.value (.agg (evA x))) W := by
  have h1 : (loadVar TEv ⟨g, 0, none⟩).run Tryd.prog W = .ok (.agg (evA x)) W := run_loadVar_row W g TEv TEv (evA x) (0, 0) _ h Tryd.underlying36 rfl szEv
  unfold execOp
  simp only [ho, hp, Instr.loadAt, Instr.sureAddr, Sem.run_bind, Sem.run_pure, Result.andThen_ok, h1]
theorem rwi_block {W : World} {b : Nat} {t : TypeId} {fr : Nat × Nat} {ls : List Ins} (h : W.heap[b]? = some (.cells (ls.flatMap insc).toArray t fr)) : RwI W W.heap.size (some ⟨b, 0, none⟩) ls :=
  ⟨fun _ => ⟨b, 0, rfl, (Array.getElem?_eq_some_iff.1 h).1⟩, fun b' o' he i x hx j u hu => by
    cases he
    have hj : j < 3 := (List.getElem?_eq_some_iff.1 hu).1
    have h2 := fi_get hj hx
    rw [hu] at h2
    simp only [World.cell?, h, Nat.zero_add, List.getElem?_toArray, h2]
    rfl⟩
end Go.Proofs.YtcoclaabainibaaDoor

namespace Go.Proofs.YtcoclaabainibaaDoor
open Go Go.ChangeShapes Go.WideShapes Go.ChangeAt Go.RowKit

/-- The same by a count. -/
def goN : Nat → List Ins → Int → Mo → Mo
  | 0, _, _, m => m
  | k + 1, ls, arg, m => match ls[m.p]? with
    | none => m
    | some x => if 8 ≤ x.op then m else goN k ls arg (stp arg x m)
theorem rest_goN (ls : List Ins) (arg : Int) : ∀ (k : Nat) (m : Mo), ls.length - m.p ≤ k → rest ls arg m = goN k ls arg m
  | 0, m, hk => by rw [rest, dif_neg (by omega)]; rfl
  | k + 1, m, hk => by
    rw [goN]
    cases hx : ls[m.p]? with
    | none =>
      have := List.getElem?_eq_none_iff.1 hx
      rw [rest, dif_neg (by omega)]
    | some x =>
      simp only
      split
      · rename_i h8; exact rest_stop hx h8
      · rename_i h8
        have h1 := stp_lt arg x m
        have h2 := (List.getElem?_eq_some_iff.1 hx).1
        rw [rest_go hx (by omega), rest_goN ls arg k _ (by omega)]
def exF : List Ins := [⟨2, 0, 0⟩, ⟨3, 0, 0⟩, ⟨5, 0, 0⟩, ⟨4, 0, 0⟩, ⟨3, 0, 0⟩, ⟨11, 0, 0⟩]
theorem exF_right : checkP exF 8 = (2, 0, 0) := by decide +kernel
theorem exF_ok : ∀ x ∈ exF, InsOk x := by
  intro x hx
  simp only [exF, List.mem_cons, List.not_mem_nil, or_false] at hx
  rcases hx with rfl | rfl | rfl | rfl | rfl | rfl <;> exact ⟨by unfold J64; decide, by unfold J64; decide, by unfold J64; decide⟩
theorem exF_next : nxE (fs0 exF 5) 0 2 = ⟨1, 0, 0, 7, 0⟩ ∧ nxV (fs0 exF 5) 0 2 = 7 := by
  have hg : goM (fs0 exF 5) 0 2 = ⟨5, [7], 7⟩ := by
    show rest exF 5 ⟨0, [], 2⟩ = _
    rw [rest_goN exF 5 6 _ (by decide)]
    rfl
  unfold nxE nxV goX
  rw [hg]
  exact ⟨rfl, rfl⟩
section
variable {w w' : World} {S : Nat → Prop} {p : Nat} {f : Fs} {qv sv : Value}
theorem FNext_any (h : FmW w S p f qv sv) (hf : FsR f) (r v : Int) : Calls Tryd.prog 11 #[.pointer (some ⟨p, 0, none⟩), iv r, iv v] w (NxP w S p f r v) := by
  cases ho : f.over with
  | true => exact Next_over h ho r v
  | false => exact Next_go h hf ho r v
end
/-- What has turned lies above a bound. -/
theorem fr_up {S : Nat → Prop} {w0 w w' : World} (hb : Below w0.heap.size w0 w) (hS : ∀ k, S k → w0.heap.size ≤ k) (hf : Fr S w w') : Below w0.heap.size w0 w' :=
  hb.trans (hf.below hb.size hS)
def AwF (w0 : World) : Prop := ∀ w : World, Below w0.heap.size w0 w → Calls Tryd.prog 8 #[] w fun e w' => e = .returned (.bool true) ∧ Below w.heap.size w w'
/-- New at an example, called and answered. -/
theorem new_ex {ls : List Ins} {m : Int} (hok : ∀ x ∈ ls, InsOk x) (hr : checkP ls 8 = (m, 0, 0)) (n b : Nat) (arg : Int) (W : World) (hT : TabB W) (h : W.heap[b]? = some (.cells (ls.flatMap insc).toArray TIn (0, 0))) (hn : n = ls.length) (hn2 : n ≤ 100) :
    Calls Tryd.prog 9 #[.slice (some ⟨b, 0, none⟩) n n, iv arg] W fun e w' => Below W.heap.size W w' ∧ ∃ p S qv sv, e = .returned (.tuple #[.pointer (some ⟨p, 0, none⟩), .int .i64 0]) ∧ (∀ k, S k → W.heap.size ≤ k) ∧ FmW w' S p (fs0 ls arg) qv sv :=
  (New_any ls arg (some ⟨b, 0, none⟩) n n W hT hok (rwi_block h) hn (Nat.le_refl _) (by omega)).mono (fun e w' ⟨h1, h2⟩ => ⟨h1, by rw [if_pos (by rw [hr])] at h2; exact h2⟩)
set_option maxRecDepth 100000 in
set_option maxHeartbeats 4000000 in
theorem awake_holds {w : World} (hT : TabB w) : AwF w := fun w1 hb1 => by
  have HC := hid (fun (b : Nat) (W : World) (hb : Below w1.heap.size w1 W) (h : W.heap[b]? = some (.cells (exF.flatMap insc).toArray TIn (0, 0))) => new_ex exF_ok exF_right 6 b 5 W ((hT.on hb1).on hb) h rfl (by decide))
  clear hT hb1
  go_enter Tryd.func8, Tryd.ntmps8
  go_wp2_with fail
  refine (HC.out w1.heap.size _ ((Below.refl _ _).alloc (Nat.le_refl _) _) (heap_alloc_new _ _)).mono ?_
  rintro e w2 ⟨hb2, p, S, qv, sv, rfl, hS, hF⟩
  have hbb := ((Below.refl w1.heap.size w1).alloc (Nat.le_refl _) (.cells (exF.flatMap insc).toArray TIn)).trans (hb2.mono (by simp))
  have hS1 : ∀ k, S k → w1.heap.size ≤ k := fun k hk => Nat.le_trans (by simp) (hS k hk)
  have HB2 := hid hbb
  have HS := hid hS1
  have HN := hid (FNext_any hF (fs0_ok 5 (by rw [exF_right])) 0 2)
  clear hb2 hbb hS hS1 hF HC
  go_wp2_with (first
    | (go_at_call 11; refine HN.out.mono ?_; rintro e w3 ⟨rfl, _, hf3⟩; rw [exF_next.1, exF_next.2]; have HB3 := hid (fr_up HB2.out HS.out hf3); clear hf3)
    | ((with_reducible refine at_op ⟨none, .store TEv (.tmp 3) (.tmp 19), _, _, _, _⟩ ?_); refine wpList_store_row rfl TEv _ _ rfl w3.heap.size (evA ⟨1, 0, 0, 7, 0⟩) rfl rfl TEv (evA evZ) (heap_alloc_new _ _) szEv rfl (evA_one _) ?_)
    | ((with_reducible refine at_op ⟨some 24, _, _, _, _, _⟩ ?_); refine wpList_runW rfl (.agg (evA ⟨1, 0, 0, 7, 0⟩)) (load_ev rfl rfl (setRow_heap _ _ _ _ _ _ (heap_alloc_new _ _))) ?_)
    | ((with_reducible refine at_op ⟨some 26, _, _, _, _, _⟩ ?_); refine wpList_runW rfl (.bool true) (exec_eqEv (x := ⟨1, 0, 0, 7, 0⟩) (y := ⟨1, 0, 0, 7, 0⟩) rfl rfl rfl) ?_)
    | fail)
  go_ret
  exact ⟨rfl, below_setRow (HB3.out.alloc HB3.out.size _) _ _ HB3.out.size⟩
def exG : List Ins := [⟨2, 0, 0⟩, ⟨3, 0, 0⟩, ⟨5, 0, 0⟩, ⟨2, 0, 0⟩, ⟨6, 0, 0⟩, ⟨5, 0, 0⟩, ⟨11, 0, 0⟩]
theorem exG_right : checkP exG 8 = (2, 0, 0) := by decide +kernel
theorem exG_ok : ∀ x ∈ exG, InsOk x := by
  intro x hx
  simp only [exG, List.mem_cons, List.not_mem_nil, or_false] at hx
  rcases hx with rfl | rfl | rfl | rfl | rfl | rfl | rfl <;> exact ⟨by unfold J64; decide, by unfold J64; decide, by unfold J64; decide⟩
theorem sums_wrap (a b : Int) (hb : -9223372036854775808 ≤ b ∧ b ≤ 9223372036854775807) : w64 (w64 (-a) + w64 (b + a)) = b := by
  unfold w64
  rw [IntKind.wrap_i64, IntKind.wrap_i64, IntKind.wrap_i64]
  omega
theorem exG_next (a b : Int) (hb : -9223372036854775808 ≤ b ∧ b ≤ 9223372036854775807) : nxE (fs0 exG a) 0 b = ⟨1, 0, 0, b, 0⟩ ∧ nxV (fs0 exG a) 0 b = b := by
  have hg : goM (fs0 exG a) 0 b = ⟨6, [b], b⟩ := by
    show rest exG a ⟨0, [], b⟩ = _
    rw [rest_goN exG a 7 _ (by show 7 - 0 ≤ 7; omega)]
    show (⟨6, [w64 (w64 (-a) + w64 (b + a))], b⟩ : Mo) = _
    rw [sums_wrap a b hb]
  unfold nxE nxV goX
  rw [hg]
  exact ⟨rfl, rfl⟩
set_option maxRecDepth 100000 in
set_option maxHeartbeats 4000000 in
theorem FrameSums_any {w : World} (hT : TabB w) (a b : Int) (hb : -9223372036854775808 ≤ b ∧ b ≤ 9223372036854775807) : Calls Tryd.prog 6 #[iv a, iv b] w fun e w' => e = .returned (.bool true) ∧ Below w.heap.size w w' := by
  have HC := hid (fun (W : World) (hb : Below w.heap.size w W) (h : W.heap[w.heap.size]? = some (.cells (exG.flatMap insc).toArray TIn (0, 0))) => new_ex exG_ok exG_right 7 w.heap.size a W (hT.on hb) h rfl (by decide))
  have HA := hid (awake_holds hT)
  have HX := hid (exG_next a b hb)
  have d1 : (b == b) = true := by simp
  have d2 : eqE ⟨1, 0, 0, b, 0⟩ ⟨1, 0, 0, b, 0⟩ = true := eqE_iff.2 rfl
  clear hT hb
  go_enter Tryd.func6, Tryd.ntmps6
  go_wp2_with fail
  refine (HC.out _ ((Below.refl _ _).alloc (Nat.le_refl _) _) (heap_alloc_new _ _)).mono ?_
  rintro e w2 ⟨hb2, p, S, qv, sv, rfl, hS, hF⟩
  have hbb := ((Below.refl w.heap.size w).alloc (Nat.le_refl _) (.cells (exG.flatMap insc).toArray TIn)).trans (hb2.mono (by simp))
  have hS1 : ∀ k, S k → w.heap.size ≤ k := fun k hk => Nat.le_trans (by simp) (hS k hk)
  have HB2 := hid hbb
  have HS := hid hS1
  have HN := hid (FNext_any hF (fs0_ok a (by rw [exG_right])) 0 b)
  clear hb2 hbb hS hS1 hF HC
  go_wp2_with (first
    | (go_at_call 11; refine HN.out.mono ?_; rintro e w3 ⟨rfl, _, hf3⟩; rw [HX.out.1, HX.out.2]; have HB3 := hid (fr_up HB2.out HS.out hf3); have HB4 := hid (below_setRow (HB3.out.alloc HB3.out.size (.cells (evA evZ) TEv)) w3.heap.size (evA ⟨1, 0, 0, b, 0⟩) HB3.out.size); clear hf3)
    | ((with_reducible refine at_op ⟨none, .store TEv (.tmp 7) (.tmp 26), _, _, _, _⟩ ?_); refine wpList_store_row rfl TEv _ _ rfl w3.heap.size (evA ⟨1, 0, 0, b, 0⟩) rfl rfl TEv (evA evZ) (heap_alloc_new _ _) szEv rfl (evA_one _) ?_)
    | ((with_reducible refine at_op ⟨some 31, _, _, _, _, _⟩ ?_); refine wpList_runW rfl (.agg (evA ⟨1, 0, 0, b, 0⟩)) (load_ev rfl rfl (setRow_heap _ _ _ _ _ _ (heap_alloc_new _ _))) ?_)
    | ((with_reducible refine at_op ⟨some 34, _, _, _, _, _⟩ ?_); refine wpList_runW rfl (.bool true) (by rw [exec_eqEv (x := ⟨1, 0, 0, b, 0⟩) (y := ⟨1, 0, 0, b, 0⟩) rfl rfl rfl, d2]) ?_)
    | (go_at_call 8; refine (HA.out _ HB4.out).mono ?_; rintro e w5 ⟨rfl, hb5⟩; have HB5 := hid (HB4.out.trans (hb5.mono HB4.out.size)); clear hb5)
    | fail)
  go_ret
  exact ⟨rfl, HB5.out⟩
end Go.Proofs.YtcoclaabainibaaDoor

namespace Go.Proofs.YtcoclaabainibaaDoor
open Go Go.ChangeShapes Go.WideShapes Go.ChangeAt Go.RowKit Go.Shelf
attribute [local go_sem] Oper.semAt_some

/-- append, and where the row lies behind it. -/
theorem wpListIn_appAt {F : Fence} {n : Nat} {P : Program} (w : World) {ops : Array Oper} {rest : List Oper} {o : Oper} {a : Act} {Q : Exit → Act → World → Prop}
    (hg : o.guard = none) (s x : Operand) (t : TypeId) (hop : o.op = Op.call { callee := Callee.builtin Builtin.append, args := #[s, x], argTypes := #[t, t] })
    (base : Nat) (e : TypeId) (i : TypeInfo) (z : Value) (size bytes : Nat) (h1 : P.underlying t = some (.slice e)) (h2 : P.info? e = some i) (h3 : i.zero = some z) (h4 : i.size = size) (h5 : i.bytes = bytes) (h6 : z.cells.size = size) (h7 : 0 < size)
    (v : Value) (k : Nat) (xs : List Value) (hs : a.eval s = v) (hown : w.ownsRow base e size v k xs) (ad : Addr) (m c : Nat) (news : List Value) (hx : a.eval x = .slice (some ad) m c) (hn : news.length = m * size)
    (hc : ∀ j u, news[j]? = some u → w.cell? (ad.add j) = some u) (h1c : ∀ u ∈ news, u.oneCell' = true) (b1 : k + m ≤ maxLen) (b2 : (k + m) * bytes ≤ 140737488355328) (b3 : base ≤ w.heap.size)
    (hK : ∀ v' w', w'.ownsRow base e size v' (k + m) (xs ++ news) → w.grownBy w' v.ownBlock → (v'.ownBlock = v.ownBlock ∨ v'.ownBlock = some w.heap.size) → wpListIn F n P ops Q rest (a.put o.dst v') w') :
    wpListIn F n P ops Q (o :: rest) a w := by
  refine wpListIn_plain hg fun K hK' => ?_
  obtain ⟨v', w', hrun, r1, r2, _, r4⟩ := run_append_own_at (P := P) (w := w) base t o.type e i z size bytes h1 h2 h3 h4 h5 h6 h7 v k xs hown ad m c news hn hc h1c b1 b2 b3
  unfold Oper.wpIn
  refine ⟨?_, ?_⟩
  · simp [Oper.about, hop, resolve, Target.leads, Sem.run_pure]
  · rw [Oper.semAt_plain F _ _ (by rw [hop]; intro c hc'; cases hc')]
    simp [execOp, hop, resolve, invoke, builtin, hs, hx, hrun, Result.andThen]
    exact hK' _ _ (hK v' w' r1 r2 r4)
/-- What is asked of a frame whose stack is read; nil too. -/
def StQ (w : World) (v : Value) (st : List Int) : Prop := (v = .pointer none ∧ st = []) ∨ ∃ p S f qv sv, v = .pointer (some ⟨p, 0, none⟩) ∧ FmW w S p f qv sv ∧ st = f.st
theorem StQ.no {w w' : World} {v : Value} {st : List Int} (h : StQ w v st) (hf : Fr (fun _ => False) w w') : StQ w' v st := by
  rcases h with h | ⟨p, S, f, qv, sv, h1, h2, h3⟩
  · exact .inl h
  · exact .inr ⟨p, S, f, qv, sv, h1, h2.no hf, h3⟩
theorem numbers_any {w : World} {v : Value} {st : List Int} (h : StQ w v st) (hl : st.length ≤ 1000) : Calls Tryd.prog 29 #[v] w fun e w' => ∃ u, e = .returned u ∧ RowL w st u w' := by
  rcases h with ⟨rfl, rfl⟩ | ⟨p, S, f, qv, sv, rfl, h, rfl⟩
  · go_enter Tryd.func29, Tryd.ntmps29
    go_wp2
    go_ret
    exact ⟨_, rfl, World.ownsRow_nil _ _ _ _, Below.refl _ _⟩
  · have c3 := h.c3
    have HC := hid (CloneL_any w sv f.st (own_told h.row) (by omega))
    clear h hl
    go_enter Tryd.func29, Tryd.ntmps29
    go_wp2_with (first
      | (go_at_call 35; refine HC.out.mono ?_; rintro e w2 ⟨u, rfl, hu⟩; have HU := hid hu; clear hu)
      | fail)
    go_ret
    exact ⟨_, rfl, HU.out⟩
def encL (x : Int) : Array Value := #[iv x]
/-- Blocks of the iterator's own. -/
def OkT (t : Nat → Prop) (W W' : World) : Prop := Below W.heap.size W W' ∧ ∀ k, t k → W.heap.size ≤ k ∧ k < W'.heap.size
def KpT (t : Nat → Prop) (W W' : World) : Prop := KS t W W'
theorem roundIn_wide2 {n m : Nat} {P : Program} {l : Nat} {f : FuncId} {tmps : Array Value} {assign body : Code} {w : World} {R : Ending → World → Prop} (h : RoundIn Fence.wide n P l f tmps assign body w R) : RoundIn Fence.wide m P l f tmps assign body w R :=
  ⟨h.1, fun c cs _ => h.2 c cs (room_wide _)⟩
theorem round_inR {n : Nat} {P : Program} {l : Nat} {f : FuncId} {tmps : Array Value} {assign body : Code} {w : World} {R : Ending → World → Prop} (lo : Nat) (h : RoundIn Fence.wide n P l f tmps assign body w R) : RoundIn (Fence.wide.inRound lo) n P l f tmps assign body w R := h
def PartPost {α κ : Type} (J : κ → List α → World → Prop) (Jx : List α → World → Prop) (xs : List α) (e : Ending) (W' : World) : Prop := (∃ v, e = .returned v) ∧ ((∃ t, J t xs W') ∨ (∃ pre, pre <+: xs ∧ Jx pre W'))
/-- A range's own row stays, over a round. -/
theorem kp_own {t : Nat → Prop} {W W' : World} {B g c n : Nat} {T : TypeId} {xs : List Value} (hk : KpT t W W') (ht : t g) (h : W.ownsRow B T 1 (.slice (some ⟨g, 0, none⟩) n c) n xs) : W'.ownsRow B T 1 (.slice (some ⟨g, 0, none⟩) n c) n xs := by
  refine ⟨h.1, ?_⟩
  rcases h.2 with ⟨e, _⟩ | ⟨g', cap, cur, e, hb, hg, rest⟩
  · cases e
  · cases e
    exact .inr ⟨g, c, cur, rfl, hb, hk _ _ _ _ ht hg, rest⟩
theorem Stack_any (w : World) (v : Option Addr) : Calls Tryd.prog 25 #[.pointer v] w fun e w' => e = .returned (.func (.func 28) #[] #[.pointer (some ⟨w.heap.size, 0, none⟩)]) ∧ w' = w.alloc (.cells #[.pointer v] 25) := by
  go_enter Tryd.func25, Tryd.ntmps25
  go_wp2
  go_ret
  exact ⟨rfl, rfl⟩
set_option maxRecDepth 100000 in
set_option maxHeartbeats 4000000 in
theorem stack_tells (n b : Nat) {w : World} {v : Value} {l : List Int} (hb : Boxed w b 25 v) (h : StQ w v l) (h8 : l.length ≤ 1000) :
    TellsX Fence.wide n Tryd.prog 28 #[.pointer (some ⟨b, 0, none⟩)] encL OkT KpT (fun _ _ => True) l w := by
  intro lp J Jx W hW hJ hJx _ _ hY hOk
  show CallsIn Fence.wide n Tryd.prog 28 #[.func (.yield lp) #[] #[], .pointer (some ⟨b, 0, none⟩)] W (PartPost J Jx l)
  have d1 : W.cell? ⟨b, 0, none⟩ = some v := Boxed.cell ((hW.block b hb.lt).trans hb)
  have HROWC := hid (numbers_any (h.no (Fr.of_below hW)) h8)
  have HY := hid hY
  have HJJ := hid hJ
  have HJX := hid hJx
  have HOK := hid hOk
  obtain ⟨N, hN⟩ : ∃ N, N = l.length := ⟨_, rfl⟩
  rw [← hN] at h8
  have HN := hid hN
  clear hY hJ hJx hOk h hb hW hN
  refine callsIn_of_wp Tryd.func28 rfl trivial ?_ rfl
  simp only [Tryd.ntmps28, List.size_toArray, List.length_cons, List.length_nil, Nat.reduceAdd, Nat.reduceSub, Array.replicate_succ, Array.replicate_zero, List.push_toArray, List.append_toArray, List.nil_append, List.cons_append]
  gi_wp2
  refine ⟨trivial, (fun h => by cases h), (callsIn_wide.2 HROWC.out).mono ?_⟩
  rintro e W1 ⟨v1, rfl, hrow, hbl⟩
  rw [← HN.out] at hrow
  obtain ⟨ra, rc, rfl⟩ := own_form hrow
  obtain ⟨t, ht⟩ : ∃ t : Nat → Prop, t = fun k => (Value.slice ra N rc).ownBlock = some k := ⟨_, rfl⟩
  have hOk1 : OkT t W W1 := ⟨hbl, fun k hk => by rw [ht] at hk; exact hrow.lt k hk⟩
  have J0 := hid (HOK.out t W1 hOk1)
  have HT := hid ht
  have HROW := hid hrow
  clear hrow hbl ht hOk1 HROWC d1
  gi_wp2
  gi_loopw [8] (fun i wr => ∃ q : Nat, q ≤ N ∧ i = .int .i64 q ∧ RowKit.Hid (J t (l.take q) wr) ∧ RowKit.Hid (wr.ownsRow W.heap.size TL 1 (.slice ra N rc) N (l.map iv))) (fun i _ => N - (intOf i).toNat)
  case atStart => exact ⟨0, Nat.zero_le _, rfl, hid (by simpa using J0.out), HROW⟩
  case round =>
    obtain ⟨q, hq, rfl, HJq, HRq⟩ := hrel
    by_cases hql : q < N
    · have hqL : q < l.length := by rw [← HN.out]; exact hql
      have hs : l[q]? = some l[q] := List.getElem?_eq_getElem hqL
      generalize l[q] = x at hs
      obtain ⟨g, k', hvf, _⟩ := HRq.out.form (by omega)
      simp only [Value.slice.injEq] at hvf
      obtain ⟨rfl, -, rfl⟩ := hvf
      have m0 : wr.cell? ⟨g, q, none⟩ = some (iv x) := by rw [HRq.out.cellAt _ (by omega), List.getElem?_map, hs]; rfl
      have hz : l.take (q + 1) = l.take q ++ [x] := by rw [List.take_add_one, hs]; rfl
      have hpx : l.take q ++ [x] <+: l := by rw [← hz]; exact List.take_prefix _ _
      obtain ⟨fn, tmps, assign, body, hy, hRd⟩ := HY.out t _ x wr HJq.out hpx
      simp only [encL] at hy
      have HRD := hid hRd
      have HZ := hid hz
      have HPX := hid hpx
      clear hRd hz hpx hs hqL
      gi_wp2
      refine ⟨(fun h => by cases h), HRD.out.mono ?_⟩
      rintro e W4 (⟨rfl, hJ4, hk4, _⟩ | ⟨rfl, hJx4, _⟩)
      · have J4 := hid hJ4
        have R4 := hid (kp_own hk4 (by rw [HT.out]; rfl) HRq.out)
        clear hJ4 hk4
        gi_wp2
        go_roundw
        case rel => exact ⟨q + 1, by omega, by go_num, by rw [HZ.out]; exact J4, R4⟩
        case measure => simp [intOf]; omega
      · have J4 := hid hJx4
        clear hJx4
        gi_wp2
        refine bodyPost_ret (results_none rfl _ _ _) rfl ?_
        exact ⟨⟨_, rfl⟩, .inr ⟨_, HPX.out, J4.out⟩⟩
    · obtain rfl : q = N := by omega
      have hall : l.take q = l := List.take_of_length_le (by rw [← HN.out]; exact Nat.le_refl _)
      have HA := hid hall
      clear hall
      gi_wp2
      go_end0
      exact ⟨⟨_, rfl⟩, .inl ⟨t, by have := HJq.out; rw [HA.out] at this; exact this⟩⟩
theorem seqR_not_nil (f : Nat) (fv : Array Value) (W : World) : (binOp .neq 64 (.func (.func f) #[] fv) .nilFunc).run Tryd.prog W = .ok (.bool true) W := by kernel_rfl
/-- Between two rounds: the row in its box. -/
structure LR (w : World) (n0 : Nat) (m : Int) (t : Nat → Prop) (pre : List Int) (u : Value) (W : World) : Prop where
  b0 : Boxed W w.heap.size 3 (.int .i64 m)
  b1 : Boxed W (w.heap.size + 1) 23 u
  r1 : W.ownsRow n0 TL 1 u pre.length (pre.map iv)
  ml : (pre.length : Int) ≤ m
  below : Below w.heap.size w W
  sz : n0 ≤ W.heap.size
  tt : ∀ k, t k → n0 ≤ k ∧ k < W.heap.size ∧ u.ownBlock ≠ some k
theorem LR.kept {w : World} {n0 : Nat} {m : Int} {t : Nat → Prop} {pre : List Int} {u : Value} {W W' : World} {row : Option Nat} (h : LR w n0 m t pre u W) (hg : W.grownBy W' row) (hr : ∀ r, row = some r → w.heap.size ≤ r ∧ ∃ o : Obj, W.heap[r]? = some o ∧ o.isCells = false) : LR w n0 m t pre u W' :=
  have hr' := fun r e => (hr r e).2
  ⟨h.b0.kept hg (not_cells h.b0 hr'), h.b1.kept hg (not_cells h.b1 hr'), owns_not_cells h.r1 hg hr', h.ml, h.below.grown hg h.below.size (fun k e => (hr k e).1), Nat.le_trans h.sz hg.size, fun k hk => ⟨(h.tt k hk).1, Nat.lt_of_lt_of_le (h.tt k hk).2.1 hg.size, (h.tt k hk).2.2⟩⟩
/-- Where it was left. -/
def LRx (w : World) (n0 : Nat) (m : Int) (c : Code) (pre : List Int) (W : World) : Prop := c = .exit 0 ∧ ∃ t pre1 x lv, pre = pre1 ++ [x] ∧ (pre1.length : Int) = m ∧ LR w n0 m t pre1 lv W
def RowTold (w : World) (l : List Int) (e : Ending) (w' : World) : Prop := Below w.heap.size w w' ∧ ∃ v, e = .returned v ∧ Tl iv w'.heap.size w' v l
set_option maxRecDepth 100000 in
set_option maxHeartbeats 4000000 in
theorem stack_in (n : Nat) (hn : 5 ≤ n) {w : World} {a : Option Addr} {q : List Int} (h : StQ w (.pointer a) q) (h8 : q.length ≤ 1000) (m : Nat) (hm : m ≤ 100000) :
    CallsIn Fence.wide n Tryd.prog 15 #[.pointer a, .int .i64 m] w (RowTold w (q.take m)) := by
  have h1 : 1 ≤ n := by omega
  obtain ⟨i0, hi, hz0, hz1, hz2⟩ := info_split infoL
  obtain ⟨mi, hmi⟩ : ∃ mi : Int, mi = (m : Int) := ⟨_, rfl⟩
  rw [← hmi]
  have hmi2 : 0 ≤ mi ∧ mi ≤ 100000 := by omega
  obtain ⟨w1, hw1⟩ : ∃ w1, w1 = (w.alloc (.cells #[.int .i64 mi] 3)).alloc (.cells #[.slice none 0 0] 23) := ⟨_, rfl⟩
  have hb1 : Below w.heap.size w w1 := by rw [hw1]; exact ((Below.refl _ _).alloc (Nat.le_refl _) _).alloc (by simp) _
  have hsz1 : w1.heap.size = w.heap.size + 2 := by rw [hw1]; simp
  have b0 := (Boxed.new w 3 (.int .i64 mi)).alloc (.cells #[.slice none 0 0] 23)
  have b1 := Boxed.new (w.alloc (.cells #[.int .i64 mi] 3)) 23 (.slice none 0 0)
  simp only [World.size_alloc] at b1
  rw [← hw1] at b0 b1
  have HM := hid hmi
  clear hmi hm
  have HQ := hid h
  have HB0 := hid b0
  have HB1 := hid b1
  have HBW := hid hb1
  have HW1 := hid hw1
  have HZ1 := hid hsz1
  clear b0 b1 hb1 hw1 hsz1 h
  refine callsIn_of_wp_marks Tryd.func15 rfl trivial ?_ rfl
  simp only [Tryd.ntmps15, List.size_toArray, List.length_cons, List.length_nil, Nat.reduceAdd, Nat.reduceSub, Array.replicate_succ, Array.replicate_zero, List.push_toArray, List.append_toArray, List.nil_append, List.cons_append]
  have hq := seqR_not_nil
  gi_wp2
  rw [← HW1.out]
  first
    | refine ⟨trivial, (fun h => by cases h), (callsIn_wide.2 (Stack_any _ _)).mono ?_⟩
    | refine ⟨trivial, (callsIn_wide.2 (Stack_any _ _)).mono ?_⟩
    | refine (callsIn_wide.2 (Stack_any _ _)).mono ?_
  rintro e w2 ⟨rfl, hw2⟩
  have hb2 : Below w1.heap.size w1 w2 := by rw [hw2]; exact (Below.refl _ _).alloc (Nat.le_refl _) _
  have hbw := HBW.out.trans (hb2.mono HBW.out.size)
  have hsz : w.heap.size + 2 ≤ w2.heap.size := by have := hb2.size; rw [HZ1.out] at this; exact this
  obtain ⟨b, hb⟩ : ∃ b, b = w1.heap.size := ⟨_, rfl⟩
  rw [← hb]
  have hbx : Boxed w2 b 25 (.pointer a) := by rw [hw2, hb]; exact Boxed.new _ _ _
  have hb2s : Boxed w2 (w.heap.size + 1) 23 (.slice none 0 0) := (hb2.block _ HB1.out.lt).trans HB1.out
  have hLK : ∀ t W, (∀ k, t k → w2.heap.size ≤ k ∧ k < W.heap.size) → Below w2.heap.size w2 W → LR w w2.heap.size mi t [] (.slice none 0 0) W := fun t W h1 h3 =>
    ⟨(h3.block _ (by have := HB0.out.lt; have := hb2.size; omega)).trans ((hb2.block _ HB0.out.lt).trans HB0.out), (h3.block _ hb2s.lt).trans hb2s, World.ownsRow_nil _ _ _ _, by simpa using hmi2.1, hbw.trans (h3.mono hbw.size), h3.size, fun k hk => ⟨(h1 k hk).1, (h1 k hk).2, by simp [Value.ownBlock]⟩⟩
  have HST := hid (stack_tells (n := n - 1) b hbx (HQ.out.no (Fr.of_below hbw)) h8)
  have HLK := hid hLK
  have HZ := hid hsz
  clear hLK hbw hb2s hb2 HW1 HB0 HB1 hsz hw2 hb hbx HQ
  gi_wp2
  clear hq
  refine rangeFunc_x rfl h1 (gf := 28) (lb := #[.pointer (some ⟨b, 0, none⟩)]) rfl trivial (enters_of Tryd.func28 (by kernel_rfl) rfl)
    HST.out (fun _ _ _ h => h.1) (fun _ {A B C} h k => KS.t h k) (fun _ W l o o' _ h2 h3 _ => KS.b _ W l o o' h2 h3) (fun _ => rfl)
    (fun t pre Wc => ∃ lv, LR w w2.heap.size mi t pre lv Wc) (LRx w w2.heap.size mi)
    (fun _ _ _ _ _ ⟨lv, h⟩ hg hr => ⟨lv, h.kept hg (fun r e => ⟨by have := (hr r e).1; have := HZ.out; omega, (hr r e).2⟩)⟩)
    (fun _ _ _ _ _ ⟨hc, t, p1, x, lv, h1, h2, h3⟩ hg hr => ⟨hc, t, p1, x, lv, h1, h2, h3.kept hg (fun r e => ⟨by have := (hr r e).1; have := HZ.out; omega, (hr r e).2⟩)⟩)
    (fun _ _ _ _ => trivial) (fun _ _ => trivial) (fun t W1 W hb _ ⟨h3, h1⟩ => ⟨_, HLK.out t W (fun k hk => ⟨Nat.le_trans hb.size (h1 k hk).1, (h1 k hk).2⟩) (hb.trans (h3.mono hb.size))⟩)
    (fun t pre x a' Wc => ∃ lv, LR w w2.heap.size mi t pre lv Wc ∧ a' = { tmps := #[.pointer a, .int .i64 mi, undef, .pointer (some ⟨w.heap.size, 0, none⟩), .slice none 0 0, .pointer (some ⟨w.heap.size + 1, 0, none⟩), .func (.func 28) #[] #[.pointer (some ⟨b, 0, none⟩)], iv x, .pointer a, .func (.func 28) #[] #[.pointer (some ⟨b, 0, none⟩)], .func (.func 28) #[] #[.pointer (some ⟨b, 0, none⟩)], .bool true, .func (.func 28) #[] #[.pointer (some ⟨b, 0, none⟩)], iv x, undef, undef, undef, undef, undef, undef, undef, undef, undef], defers := [] })
    (fun _ pre x a' _ X Y row hs hg hr => by
      obtain ⟨lv, e0, e3⟩ := hs
      exact ⟨lv, e0.kept hg (fun r e => ⟨by have := (hr r e).1; have := HZ.out; omega, (hr r e).2⟩), e3⟩)
    ?assignrow ?bodyrow ?donerow ?stoprow
  case assignrow =>
    rintro lo t pre x Wc K ⟨lv, hci⟩ _ hK
    simp only [encL]
    have HCI := hid hci
    have HKK := hid hK
    clear hci hK
    gi_wp2
    exact HKK.out _ _ (KeepsFrom.refl _ _) (KS.refl _ Wc) ⟨lv, HCI.out, rfl⟩
  case bodyrow =>
    rintro lo t pre x a' Wc hl ⟨r, hr⟩ hpx ⟨lv, H, rfl⟩
    have e0 := H.b0.cell
    have e1 := H.b1.cell
    have f1 := H.b1.frozen
    have hml := H.ml
    obtain ⟨la, lk, rfl⟩ := own_form H.r1
    have HH := hid H
    obtain ⟨N, hN⟩ : ∃ N, N = pre.length := ⟨_, rfl⟩
    have HN := hid hN
    rw [← hN] at e1 hml
    clear H hl hr hN hpx
    by_cases hfull : (N : Int) = mi
    · have hge : decide (mi ≤ (N : Int)) = true := by simp; omega
      have HF := hid hfull
      clear hfull
      gi_wp2
      exact ⟨KeepsFrom.refl _ _, rfl, t, pre, _, _, rfl, by rw [← HN.out]; exact HF.out, HH.out⟩
    · have hge : decide (mi ≤ (N : Int)) = false := by simp; omega
      have hlt : (N : Int) < mi := by omega
      clear hfull
      have H := HH.out
      have hsz := H.sz
      have hzz := HZ.out
      have hrow := H.r1
      rw [← HN.out] at hrow
      have hbx := H.b1
      rw [← HN.out] at hbx
      have HROW := hid hrow
      have HBX := hid hbx
      clear hrow hbx
      gi_wp2_with (first
        | (gi_at_builtin; refine wpListIn_appAt _ rfl _ _ 23 rfl w2.heap.size TL i0 (.int .i64 0) 1 8 Tryd.underlying23 hi hz0 hz1 hz2 rfl (by decide) _ _ _ rfl (HROW.out.alloc _) ⟨Wc.heap.size, 0, none⟩ 1 1 [iv x] rfl rfl (World.news_of_block (heap_alloc_new Wc _)) (by simp [Value.oneCell']) (by simp only [maxLen]; omega) (by omega) (by simp; omega) ?_; intro v' w3 hown' hgrow hat; obtain ⟨g', cap', rfl⟩ := ownsRow_succ hown'; obtain ⟨p1, p2, p3, p4, p5, p6, p7⟩ := box_push HBX.out (by decide) HROW.out hown' hgrow; have hc1 := p1.cell; have hf1 := p1.frozen))
      have htt := H.tt
      rw [← HN.out] at htt
      refine ⟨p4.from _, ?_, _, p7 _ _ _ H.b0 (by omega) (by omega), p2, ?_, ?_, H.below.trans (p6 _ (by omega) (by omega) H.below.size), Nat.le_trans hsz p4.size, fun k hk => ⟨(htt k hk).1, Nat.lt_of_lt_of_le (htt k hk).2.1 p4.size, ?_⟩⟩
      · exact (((KS.refl _ Wc).alloc _).grown hgrow (fun k ek e2 => (htt k e2).2.2 ek)).set _ _ (fun e => by have h5 : w2.heap.size ≤ w.heap.size + 1 := (htt _ e).1; omega)
      · have h7 : (pre ++ [x]).map iv = pre.map iv ++ [iv x] := by simp
        rw [List.length_append, List.length_singleton, ← HN.out, h7]; exact p3
      · rw [List.length_append, List.length_singleton, ← HN.out]; omega
      · intro e
        rcases hat with e2 | e2
        · rw [e] at e2; exact (htt k hk).2.2 e2.symm
        · rw [e] at e2; have := (htt k hk).2.1; simp at e2; omega
  case donerow =>
    rintro D t Wc hD ⟨lv, H⟩ hK
    have e1 := H.b1.cell
    have HH := hid H
    clear H
    gi_wp2
    refine ⟨by simp, .inl ⟨_, _, rfl, run_takeDeferred hK, ?_⟩⟩
    have H2 := HH.out.kept (grownBy_putObj' Wc D (.deferred none)) (fun r e => by cases e; exact ⟨by have := HZ.out; omega, _, hK, rfl⟩)
    refine ⟨_, results_tmp rfl _ _ _, H2.below, lv, rfl, ?_⟩
    have ht := own_told H2.r1
    have hml := H2.ml
    rw [List.take_of_length_le (by have := HM.out; omega)]
    exact ht
  case stoprow =>
    rintro D c pre Wc hD hp ⟨rfl, t, p1, x, lv, rfl, hm, H⟩ hK
    have e1 := H.b1.cell
    have HH := hid H
    have HS := hid hp
    have HMM := hid hm
    clear H hp hm
    gi_wp2
    refine ⟨by simp, .inl ⟨_, _, rfl, run_takeDeferred hK, ?_⟩⟩
    have H2 := HH.out.kept (grownBy_putObj' Wc D (.deferred none)) (fun r e => by cases e; exact ⟨by have := HZ.out; omega, _, hK, rfl⟩)
    refine ⟨_, results_tmp rfl _ _ _, H2.below, lv, rfl, ?_⟩
    have ht := own_told H2.r1
    have hlen : p1.length = m := by have := HM.out; have := HMM.out; omega
    have hpr := List.prefix_iff_eq_take.1 ((List.prefix_append p1 [x]).trans HS.out)
    have h9 : p1 = q.take m := by rw [← hlen]; exact hpr
    rw [h9] at ht
    exact ht
theorem stack_told {w : World} {v : Value} {q : List Int} (h : StQ w v q) (h8 : q.length ≤ 1000) (m : Nat) (hm : m ≤ 100000) : Calls Tryd.prog 15 #[v, .int .i64 m] w (RowTold w (q.take m)) := by
  have hv : ∃ a, v = .pointer a := by
    rcases h with ⟨e, _⟩ | ⟨p, _, _, _, _, e, _⟩
    · exact ⟨_, e⟩
    · exact ⟨_, e⟩
  obtain ⟨a, rfl⟩ := hv
  exact (callsIn_wide (n := 5)).1 (stack_in 5 (by omega) h h8 m hm)
end Go.Proofs.YtcoclaabainibaaDoor

namespace Go.Proofs.YtcoclaabainibaaDoor
open Go Go.ChangeShapes Go.WideShapes Go.ChangeAt Go.RowKit

set_option maxHeartbeats 2000000 in
set_option maxRecDepth 100000 in
/-- same, at two alike rows. -/
theorem same_tl (w : World) (va vb : Value) (xs : List Int) (ha : Tl iv w.heap.size w va xs) (hb : Tl iv w.heap.size w vb xs) :
    Calls Tryd.prog 14 #[va, vb] w fun e w' => e = .returned (.bool true) ∧ Below w.heap.size w w' := by
  obtain ⟨a, ka, rfl, hka, hka2, hA⟩ := ha.ex
  obtain ⟨a', kb, rfl, hkb, hkb2, hB⟩ := hb.ex
  obtain ⟨n, hn⟩ : ∃ n, n = xs.length := ⟨_, rfl⟩
  rw [← hn] at hka hkb hA hB ⊢
  have HLEN := hid hn
  have HA := hid hA
  have HB := hid hB
  have HB0 := hid (Below.refl w.heap.size w)
  clear ha hb hA hB hn
  go_enter Tryd.func14, Tryd.ntmps14
  go_wp2
  go_loopw [5] (fun i wr => ∃ q : Nat, q ≤ n ∧ i = .int .i64 q ∧ RowKit.Hid (Below w.heap.size w wr)) (fun i _ => n - (intOf i).toNat)
  case atStart => exact ⟨0, by omega, rfl, HB0⟩
  case round =>
    obtain ⟨q, hq1, rfl, HW⟩ := hrel
    by_cases hql : q < n
    · have hqx : q < xs.length := by rw [← HLEN.out]; exact hql
      have hx : xs[q]? = some xs[q] := List.getElem?_eq_getElem hqx
      generalize xs[q] = x at hx
      obtain ⟨g, o, rfl, hg, hc⟩ := HA.out (by omega)
      obtain ⟨g', o', rfl, hg', hc'⟩ := HB.out (by omega)
      have c1 : wr.cell? ⟨g, o + q, none⟩ = some (.int .i64 x) := (World.cell?_of_block (w := w) (w' := wr) (a := ⟨g, o + q, none⟩) (HW.out.block g hg)).trans (hc q _ hx)
      have c2 : wr.cell? ⟨g', o' + q, none⟩ = some (.int .i64 x) := (World.cell?_of_block (w := w) (w' := wr) (a := ⟨g', o' + q, none⟩) (HW.out.block g' hg')).trans (hc' q _ hx)
      clear hx hqx hc hc' hg hg'
      go_upto_region 6 with (fail)
      go_quiet (fail)
      all_goals
        go_wp2
        go_roundw
        case rel => exact ⟨q + 1, by omega, by go_num, hid ⟨HW.out.os, HW.out.tape, HW.out.output, HW.out.size, HW.out.block⟩⟩
        case measure => simp [intOf]; omega
    · obtain rfl : q = n := by omega
      go_wp2
      go_ret
      exact ⟨rfl, HW.out⟩
/-- A frame of which all lies above a bound. -/
def FmA (B : Nat) (w : World) (p : Nat) (f : Fs) : Prop := ∃ S qv sv, (∀ k, S k → B ≤ k) ∧ FmW w S p f qv sv
theorem FmA.no {B p : Nat} {w w' : World} {f : Fs} (h : FmA B w p f) (hf : Fr (fun _ => False) w w') : FmA B w' p f := by
  obtain ⟨S, qv, sv, h1, h2⟩ := h
  exact ⟨S, qv, sv, h1, h2.no hf⟩
theorem FmA.next {B p : Nat} {w : World} {f : Fs} (h : FmA B w p f) (hB : B ≤ w.heap.size) (hf : FsR f) (r v : Int) : Calls Tryd.prog 11 #[.pointer (some ⟨p, 0, none⟩), iv r, iv v] w fun e w' =>
    e = .returned (.tuple #[.agg (evA (nxE f r v)), iv (nxV f r v)]) ∧ FmA B w' p (nxF f r v) ∧ Below B w w' := by
  obtain ⟨S, qv, sv, h1, h2⟩ := h
  refine (FNext_any h2 hf r v).mono ?_
  rintro e w' ⟨rfl, ⟨qv2, sv2, h3⟩, h4⟩
  exact ⟨rfl, ⟨exS S w w', qv2, sv2, fun k hk => by
    rcases hk with e | e
    · exact h1 k e
    · exact Nat.le_trans hB e.1, h3⟩, h4.below hB h1⟩
theorem FmA.q {B p : Nat} {w : World} {f : Fs} (h : FmA B w p f) : StQ w (.pointer (some ⟨p, 0, none⟩)) f.st := by
  obtain ⟨S, qv, sv, h1, h2⟩ := h
  exact .inr ⟨p, S, f, qv, sv, rfl, h2, rfl⟩
/-- What the law's stack tells, as a slice. -/
theorem stack_sl {w : World} {v : Value} {q : List Int} {n m : Nat} (h : StQ w v q) (h8 : q.length ≤ 8) (hm : 8 ≤ m ∧ m ≤ 99) (hn : n = q.length) : Calls Tryd.prog 15 #[v, .int .i64 m] w fun e w' => Below w.heap.size w w' ∧ ∃ a c, e = .returned (.slice a n c) ∧ n ≤ c ∧ Tl iv w'.heap.size w' (.slice a n c) q := by
  refine (stack_told h (by omega) m (by omega)).mono ?_
  rintro e w' ⟨h1, u, rfl, h2⟩
  rw [List.take_of_length_le (by omega)] at h2
  obtain ⟨a, c, rfl, h3, _⟩ := h2.ex
  subst hn
  exact ⟨h1, a, c, rfl, h3, h2⟩
set_option maxRecDepth 100000 in
set_option maxHeartbeats 4000000 in
theorem FrameNil_any {w : World} (hT : TabB w) (r v : Int) : Calls Tryd.prog 7 #[iv r, iv v] w fun e w' => e = .returned (.bool true) ∧ Below w.heap.size w w' := by
  have HA := hid (awake_holds hT)
  have HN := hid (Next_nil w r v)
  have HS := hid (fun W => stack_sl (w := W) (v := .pointer none) (q := []) (n := 0) (m := 9) (.inl ⟨rfl, rfl⟩) (by simp) (by omega) rfl)
  have d1 : (v == v) = true := by simp
  clear hT
  go_enter Tryd.func7, Tryd.ntmps7
  go_wp2_with (first
    | (go_at_call 11; refine HN.out.mono ?_; rintro e w3 ⟨rfl, hb3⟩; have HB3 := hid hb3; have HB4 := hid (below_setRow (hb3.alloc hb3.size (.cells (evA evZ) TEv)) w3.heap.size (evA ⟨5, 0, 0, 0, 12⟩) hb3.size); clear hb3)
    | ((with_reducible refine at_op ⟨none, .store TEv (.tmp 6) (.tmp 13), _, _, _, _⟩ ?_); refine wpList_store_row rfl TEv _ _ rfl w3.heap.size (evA ⟨5, 0, 0, 0, 12⟩) rfl rfl TEv (evA evZ) (heap_alloc_new _ _) szEv rfl (evA_one _) ?_)
    | ((with_reducible refine at_op ⟨some 15, _, _, _, _, _⟩ ?_); refine wpList_runW rfl (.agg (evA ⟨5, 0, 0, 0, 12⟩)) (load_ev rfl rfl (setRow_heap _ _ _ _ _ _ (heap_alloc_new _ _))) ?_)
    | ((with_reducible refine at_op ⟨some 17, _, _, _, _, _⟩ ?_); refine wpList_runW rfl (.bool true) (exec_eqEv (x := ⟨5, 0, 0, 0, 12⟩) (y := ⟨5, 0, 0, 0, 12⟩) rfl rfl rfl) ?_)
    | (go_at_call 13; refine (At_nil _).mono ?_; rintro e w5 ⟨rfl, hw5⟩; subst hw5)
    | (go_at_call 15; refine (HS.out _).mono ?_; rintro e w6 ⟨hb6, a6, c6, rfl, _, _⟩; have HB6 := hid (HB4.out.trans (hb6.mono HB4.out.size)); clear hb6)
    | (go_at_call 8; refine (HA.out _ HB6.out).mono ?_; rintro e w7 ⟨rfl, hb7⟩; have HB7 := hid (HB6.out.trans (hb7.mono HB6.out.size)); clear hb7)
    | fail)
  go_ret
  exact ⟨rfl, HB7.out⟩
end Go.Proofs.YtcoclaabainibaaDoor
