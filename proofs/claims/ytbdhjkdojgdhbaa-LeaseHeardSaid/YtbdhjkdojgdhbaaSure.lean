/-
  A region that draws its order, walked once in the order of the text: where each operation, in every world that keeps S, gives a value that is known and leaves a world that keeps S, the order does not matter.
  After the pattern of the library's walk of regions that only read; here the world may turn, as long as S is kept.
-/
import Derived.Test.YtbdhjkdojgdhbaaLibB
import Derived.Still
namespace Go.Proofs.Ytbdhjkdojgdhbaa
open Go Go.ChangeShapes Go.WideShapes Go.ChangeAt Go.RowKit

section
variable {P : Program} {ops : Array Oper} {md : Region.Mode} {S : World → Prop}

/-- In every world that keeps S the operation gives v and keeps S. -/
def SureAt (P : Program) (S : World → Prop) (o : Oper) (v : Value) (a : Act) : Prop :=
  ∀ w, S w → (∃ w', (execOp a.eval o).run P w = .ok (.value v) w' ∧ S w') ∨ (∃ w', (execOp a.eval o).run P w = .ok .skip w' ∧ v = undef ∧ S w') ∨
    ∃ f args w', (execOp a.eval o).run P w = .ok (.enter f args) w' ∧ Calls P f args w' (fun e w'' => e = .returned v ∧ S w'')
/-- .. or it is not asked for. -/
def YieldsS (P : Program) (ops : Array Oper) (S : World → Prop) (o : Oper) (v : Value) (a : Act) : Prop :=
  (Region.wanted o (yielded ops a.tmps) = true ∧ SureAt P S o v a) ∨ (Region.wanted o (yielded ops a.tmps) = false ∧ v = undef)
def suOp (P : Program) (ops : Array Oper) (S : World → Prop) (i : Nat) (K : Act → Prop) (a : Act) : Prop :=
  match ops[i]? with
  | none => K a
  | some o => ∃ v, YieldsS P ops S o v a ∧ K (a.put o.dst v)
def wpSure (P : Program) (ops : Array Oper) (S : World → Prop) (Q : Act → Prop) : List Oper → Act → Prop
  | [], a => Q a
  | o :: rest, a => ∃ v, YieldsS P ops S o v a ∧ wpSure P ops S Q rest (a.put o.dst v)

theorem suOp_mono {i : Nat} {a : Act} {K K' : Act → Prop} (h : ∀ a, K a → K' a) (hh : suOp P ops S i K a) : suOp P ops S i K' a := by
  unfold suOp at *
  split
  · exact h _ (by simpa [*] using hh)
  · rename_i o ho
    simp only [ho] at hh
    obtain ⟨v, hy, hk⟩ := hh
    exact ⟨v, hy, h _ hk⟩
def wpAnyV (P : Program) (md : Region.Mode) (ops : Array Oper) (S : World → Prop) (Q : Act → Prop) : Nat → Array Bool → Act → Prop
  | 0, listed, a => Region.ready md ops listed = [] ∧ Q a
  | fuel + 1, listed, a =>
    (Region.ready md ops listed = [] → Q a) ∧
    ∀ i ∈ Region.ready md ops listed, suOp P ops S i (wpAnyV P md ops S Q fuel (listed.setIfInBounds i true)) a

theorem wpOp_of_suOp {i : Nat} {a : Act} {w : World} {K : Act → Prop} {K' : Act → World → Prop} {Q' : Exit → Act → World → Prop} (hS : S w) (h : ∀ a w, K a → S w → K' a w) (hh : suOp P ops S i K a) : wpOp P ops Q' i K' a w := by
  unfold suOp at hh
  unfold wpOp
  split
  · rename_i ho; simp only [ho] at hh; exact h _ _ hh hS
  · rename_i o ho
    simp only [ho] at hh
    obtain ⟨v, ⟨hw, hy⟩ | ⟨hw, rfl⟩, hk⟩ := hh
    · rw [if_pos hw]
      refine .inl ?_
      unfold Oper.wp
      rcases hy w hS with ⟨w', hr, hS'⟩ | ⟨w', hr, rfl, hS'⟩ | ⟨f, args, w', hr, hc⟩
      · rw [hr]; exact h _ _ hk hS'
      · rw [hr]; exact h _ _ hk hS'
      · rw [hr]
        exact hc.mono fun e w'' ⟨he, hw'⟩ => by subst he; exact h _ _ hk hw'
    · rw [if_neg (by rw [hw]; decide)]
      exact h _ _ hk hS
theorem wpAny_of_sure {Q : Act → Prop} {Q' : Exit → Act → World → Prop} (hQ : ∀ a w, Q a → S w → Q' .normal a w) : ∀ (fuel : Nat) (listed : Array Bool) (a : Act) (w : World), S w →
    wpAnyV P md ops S Q fuel listed a → wpAny P md ops Q' fuel listed a w
  | 0, _, _, _, hS, h => ⟨h.1, hQ _ _ h.2 hS⟩
  | fuel + 1, _, _, _, hS, h => ⟨fun h0 => hQ _ _ (h.1 h0) hS, fun i hi => wpOp_of_suOp hS (fun a' w' hk hs => wpAny_of_sure hQ fuel _ a' w' hs hk) (h.2 i hi)⟩
theorem YieldsS.of_same {o : Oper} {v : Value} {a a' : Act} (hy : YieldsS P ops S o v a) (he : execOp a'.eval o = execOp a.eval o)
    (hw : Region.wanted o (yielded ops a'.tmps) = Region.wanted o (yielded ops a.tmps)) : YieldsS P ops S o v a' := by
  unfold YieldsS SureAt at *
  rw [he, hw]
  exact hy
theorem suOp_put {j : Nat} {oi oj : Oper} {v : Value} (hj : ops[j]? = some oj) (hap : oi.apart ops oj = true)
    (hsi : ∀ cs b, oi.op ≠ .select cs b) (hsj : ∀ cs b, oj.op ≠ .select cs b) {K : Act → Prop} {a : Act}
    (hy : YieldsS P ops S oi v a) (h : suOp P ops S j K (a.put oi.dst v)) :
    suOp P ops S j (fun a' => YieldsS P ops S oi v a' ∧ K (a'.put oi.dst v)) a := by
  obtain ⟨h1, h2, h3⟩ := Oper.apart_spec hap
  unfold suOp at *
  simp only [hj] at *
  obtain ⟨u, hu, hk⟩ := h
  refine ⟨u, hu.of_same (execOp_put oj hsj a oi.dst v h1).symm (wanted_put oj a oi.dst v h1).symm, hy.of_same (execOp_put oi hsi a oj.dst u h3) (wanted_put oi a oj.dst u h3), ?_⟩
  rw [← Act.put_comm a v u h2]
  exact hk
theorem wpAnyV_first {Q : Act → Prop} {i : Nat} {oi : Oper} {v : Value} (hi : ops[i]? = some oi) (hsel : ∀ (j : Nat) (o : Oper) cs b, ops[j]? = some o → o.op ≠ .select cs b) :
    ∀ (fuel : Nat) (listed : Array Bool) (a : Act),
      (∀ j oj, ops[j]? = some oj → j ≠ i → listed.getD j true = false → (∀ e ∈ oj.after, Region.binds md e = true → e.on ≠ i) → oi.apart ops oj = true) →
      i ∈ Region.ready md ops listed → YieldsS P ops S oi v a →
      wpAnyV P md ops S Q fuel (listed.setIfInBounds i true) (a.put oi.dst v) → wpAnyV P md ops S Q (fuel + 1) listed a := by
  intro fuel
  induction fuel with
  | zero =>
    intro listed a _ hr hy H
    refine ⟨fun h => (by rw [h] at hr; cases hr), fun j hj => ?_⟩
    by_cases hji : j = i
    · subst hji
      unfold suOp; simp only [hi]; exact ⟨v, hy, H⟩
    · have := ready_mono hj hji
      rw [H.1] at this
      cases this
  | succ fuel ih =>
    intro listed a hfree hr hy H
    refine ⟨fun h => (by rw [h] at hr; cases hr), fun j hj => ?_⟩
    by_cases hji : j = i
    · subst hji
      unfold suOp; simp only [hi]; exact ⟨v, hy, H⟩
    · have h1 := H.2 j (ready_mono hj hji)
      obtain ⟨hjun, oj, hoj, hall⟩ := mem_ready.1 hj
      have hnot : ∀ e ∈ oj.after, Region.binds md e = true → e.on ≠ i := fun e he hb heq => by
        have h1 := hall e he hb
        have h0 := (mem_ready.1 hr).1
        rw [heq] at h1
        rcases Nat.lt_or_ge i listed.size with h' | h'
        · simp [h'] at h0 h1; rw [h0] at h1; cases h1
        · simp [Array.getElem?_eq_none h'] at h1
      have h2 := suOp_put hoj (hfree j oj hoj hji hjun hnot) (fun cs b => hsel i oi cs b hi) (fun cs b => hsel j oj cs b hoj) hy h1
      have hfree' : ∀ k ok, ops[k]? = some ok → k ≠ i → (listed.setIfInBounds j true).getD k true = false →
          (∀ e ∈ ok.after, Region.binds md e = true → e.on ≠ i) → oi.apart ops ok = true := fun k ok hk hki hun hno => by
        refine hfree k ok hk hki ?_ hno
        by_cases hjk : j = k
        · subst hjk; exact hjun
        · rw [getD_set_ne true hjk] at hun; exact hun
      refine suOp_mono (fun a' h3 => ih (listed.setIfInBounds j true) a' hfree' (ready_mono hr (Ne.symm hji)) h3.1 ?_) h2
      rw [Array.setIfInBounds_comm _ _ hji]
      exact h3.2
theorem wpAnyV_lex {Q : Act → Prop} (hs : Region.noSelect ops = true) : ∀ (l : List Oper) (k : Nat) (listed : Array Bool) (a : Act), (∀ j, l[j]? = ops[k + j]?) →
    Region.lexFrom md ops l.length k listed = true → wpSure P ops S Q l a → wpAnyV P md ops S Q l.length listed a
  | [], _, _, _, _, hB, h => ⟨by simpa [Region.lexFrom] using hB, h⟩
  | o :: l, k, listed, a, hl, hB, h => by
    have h0 : ops[k]? = some o := by simpa using (hl 0).symm
    simp only [List.length_cons, Region.lexFrom, Bool.and_eq_true] at hB
    obtain ⟨⟨hr, hf⟩, hB'⟩ := hB
    obtain ⟨v, hy, hK⟩ := h
    exact wpAnyV_first h0 (Region.noSelect_spec hs) l.length listed a (Region.free_spec h0 hf) (by simpa using hr) hy
      (wpAnyV_lex hs l (k + 1) _ _ (fun j => by have := hl (j + 1); simpa [Nat.add_assoc, Nat.add_comm 1 j] using this) hB' hK)

/-- THE LAW. -/
theorem wp_region_sure {id : Nat} {Q : Exit → Act → World → Prop} {a : Act} {w : World} {l : List Oper} (S : World → Prop) (hm : P.follows .mixedOrders = true) (hB : Region.lexB .any l.toArray = true) (hS : S w.drew)
    (h : wpSure P l.toArray S (fun a' => ∀ w', S w' → Q .normal a' w') l a) : (Code.region id l.toArray true).wp P Q a w := by
  simp only [Region.lexB, Bool.and_eq_true] at hB
  refine wp_region_any hm (wpAny_of_sure (Q := fun a' => ∀ w', S w' → Q .normal a' w') (fun a' w' h1 h2 => h1 w' h2) _ _ _ _ hS ?_)
  have := wpAnyV_lex (P := P) (S := S) (md := .any) hB.1 l 0 (Array.replicate l.toArray.size false) a (by simp) (by simpa using hB.2) h
  simpa using this

/-- A region in the order of its text, likewise. -/
theorem wpList_of_sure {Q : Act → Prop} {Q' : Exit → Act → World → Prop} (hQ : ∀ a w, Q a → S w → Q' .normal a w) : ∀ (l : List Oper) (a : Act) (w : World), S w → wpSure P ops S Q l a → wpList P ops Q' l a w
  | [], _, _, hS, h => hQ _ _ h hS
  | o :: l, a, w, hS, h => by
    obtain ⟨v, hy, hk⟩ := h
    unfold wpList
    rcases hy with ⟨hw, hy⟩ | ⟨hw, rfl⟩
    · rw [if_pos hw]
      refine .inl ?_
      unfold Oper.wp
      rcases hy w hS with ⟨w', hr, hS'⟩ | ⟨w', hr, rfl, hS'⟩ | ⟨f, args, w', hr, hc⟩
      · rw [hr]; exact wpList_of_sure hQ l _ _ hS' hk
      · rw [hr]; exact wpList_of_sure hQ l _ _ hS' hk
      · rw [hr]
        exact hc.mono fun e w'' ⟨he, hw'⟩ => by subst he; exact wpList_of_sure hQ l _ _ hw' hk
    · rw [if_neg (by rw [hw]; decide)]
      exact wpList_of_sure hQ l _ _ hS hk
theorem wp_region_sure_text {id : Nat} {Q : Exit → Act → World → Prop} {a : Act} {w : World} {l : List Oper} (S : World → Prop) (hS : S w)
    (h : wpSure P l.toArray S (fun a' => ∀ w', S w' → Q .normal a' w') l a) : (Code.region id l.toArray false).wp P Q a w :=
  wp_region_list (by simpa using wpList_of_sure (Q := fun a' => ∀ w', S w' → Q .normal a' w') (fun a' w' h1 h2 => h1 w' h2) l a w hS h)

/-! The steps -/
variable {Q : Act → Prop} {o : Oper} {rest : List Oper} {a : Act}
/-- The walk stands at this operation: a guard. -/
theorem atS (o : Oper) {rest : List Oper} {a : Act} {Q : Act → Prop} (h : wpSure P ops S Q (o :: rest) a) : wpSure P ops S Q (o :: rest) a := h
theorem wpSure_end (h : Q a) : wpSure P ops S Q [] a := h
/-- an operation that hangs on no world -/
theorem wpSure_value (v : Value) (hw : Region.wanted o (yielded ops a.tmps) = true) (hr : ∀ w, (execOp a.eval o).run P w = .ok (.value v) w) (h : wpSure P ops S Q rest (a.put o.dst v)) : wpSure P ops S Q (o :: rest) a :=
  ⟨v, .inl ⟨hw, fun w hS => .inl ⟨w, hr w, hS⟩⟩, h⟩
/-- one that reads what S tells of -/
theorem wpSure_read (v : Value) (hw : Region.wanted o (yielded ops a.tmps) = true) (hr : ∀ w, S w → (execOp a.eval o).run P w = .ok (.value v) w) (h : wpSure P ops S Q rest (a.put o.dst v)) : wpSure P ops S Q (o :: rest) a :=
  ⟨v, .inl ⟨hw, fun w hS => .inl ⟨w, hr w hS, hS⟩⟩, h⟩
/-- one that isn't asked for -/
theorem wpSure_not (hw : Region.wanted o (yielded ops a.tmps) = false) (h : wpSure P ops S Q rest (a.put o.dst undef)) : wpSure P ops S Q (o :: rest) a :=
  ⟨undef, .inr ⟨hw, rfl⟩, h⟩
/-- a call by its contract -/
theorem wpSure_call (v : Value) (f : FuncId) (args : Array Value) (hw : Region.wanted o (yielded ops a.tmps) = true) (hr : ∀ w, (execOp a.eval o).run P w = .ok (.enter f args) w)
    (hc : ∀ w, S w → Calls P f args w (fun e w'' => e = .returned v ∧ S w'')) (h : wpSure P ops S Q rest (a.put o.dst v)) : wpSure P ops S Q (o :: rest) a :=
  ⟨v, .inl ⟨hw, fun w hS => .inr (.inr ⟨f, args, w, hr w, hc w hS⟩)⟩, h⟩
/-- a whole row is read -/
theorem wpSure_row (ty : TypeId) (x : Operand) (ho : o.op = .load ty x) (b : Nat) (hx : a.eval x = .pointer (some ⟨b, 0, none⟩)) (cs : Array Value) (hw : Region.wanted o (yielded ops a.tmps) = true) (t : TypeId) (fr : Nat × Nat) (d : TypeDesc)
    (hS : ∀ w, S w → w.heap[b]? = some (.cells cs t fr)) (hu : P.underlying ty = some d) (hd : (match d with | .struct _ | .array _ _ => true | _ => false) = true) (hi : (P.info? ty).map (·.size) = some cs.size)
    (h : wpSure P ops S Q rest (a.put o.dst (.agg cs))) : wpSure P ops S Q (o :: rest) a :=
  wpSure_read (.agg cs) hw (fun w hs => by
    unfold execOp
    simp only [ho, hx, Instr.loadAt, Instr.sureAddr, Sem.run_bind, Sem.run_pure, Result.andThen_ok, run_loadVar_row w b t ty cs fr d (hS w hs) hu hd hi]) h
end
/-- What lay below stays, and these blocks hold what is said. -/
def Keeps (w0 : World) (L : List (Nat × Array Value × TypeId)) (W : World) : Prop := Below w0.heap.size w0 W ∧ ∀ x ∈ L, W.heap[x.1]? = some (.cells x.2.1 x.2.2 (0, 0))
theorem Keeps.call {w0 W w' : World} {L : List (Nat × Array Value × TypeId)} (h : Keeps w0 L W) (hb : Below W.heap.size W w') : Keeps w0 L w' :=
  ⟨below_on h.1 hb, fun x hx => by rw [hb.block _ (lt_of_heap (h.2 x hx))]; exact h.2 x hx⟩
theorem Keeps.box {w0 W : World} {L : List (Nat × Array Value × TypeId)} (h : Keeps w0 L W) (cs ds : Array Value) (t : TypeId) : Keeps w0 ((W.heap.size, ds, t) :: L) ((W.alloc (.cells cs t)).setRow W.heap.size ds) :=
  ⟨below_setRow (h.1.alloc h.1.size _) _ _ h.1.size, fun x hx => by
    rcases List.mem_cons.1 hx with rfl | hx
    · exact setRow_heap _ _ _ _ t (0, 0) (heap_alloc_new _ _)
    · have := h.2 x hx
      have hlt := lt_of_heap this
      rw [setRow_other _ _ _ _ (by omega), heap_alloc_old _ _ hlt]; exact this⟩
theorem Keeps.drew {w0 W : World} {L : List (Nat × Array Value × TypeId)} (h : Keeps w0 L W) : Keeps w0 L W.drew := ⟨h.1.drew, h.2⟩
theorem Keeps.calls {P : Program} {f : FuncId} {args : Array Value} {w0 W : World} {L : List (Nat × Array Value × TypeId)} {v : Value} (h : Keeps w0 L W) (hc : Calls P f args W fun e w' => e = .returned v ∧ Below W.heap.size W w') :
    Calls P f args W fun e w' => e = .returned v ∧ Keeps w0 L w' := hc.mono fun _ _ ⟨a, b⟩ => ⟨a, h.call b⟩
end Go.Proofs.Ytbdhjkdojgdhbaa
