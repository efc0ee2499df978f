/-
  A region that draws its order and both reads and writes, walked once in the order of the text.
  Each operation has a kind: 0: its value hangs on no world; 1: it reads what S tells of; 2: it writes, and S stays; 3: it writes, and S may go.
  Asked of the text: writers stand in a forced order; what reads stands ahead of a writer of kind 3, which waits for it.
-/
import Derived.Laws.Rows
import Derived.Still
import Derived.Maps.AppendAt
import Derived.Deep.AppendLies
namespace Go.Proofs.Ytbdhjkdojgdhbaa
open Go

section
variable {P : Program} {ops : Array Oper} {md : Region.Mode} {S : World → Prop} {ks : List Nat}

/-- The value of an operation that writes nothing, by its kind. -/
def ReadsTo (P : Program) (ops : Array Oper) (S : World → Prop) (k : Nat) (o : Oper) (v : Value) (a : Act) : Prop :=
  (Region.wanted o (yielded ops a.tmps) = true ∧ ∀ w, (k = 1 → S w) → (execOp a.eval o).run P w = .ok (.value v) w ∨ ((execOp a.eval o).run P w = .ok .skip w ∧ v = undef)) ∨
  (Region.wanted o (yielded ops a.tmps) = false ∧ v = undef)
/-- What an operation that writes comes to. -/
def WritesTo (P : Program) (ops : Array Oper) (o : Oper) (v : Value) (a : Act) (w w' : World) : Prop :=
  Region.wanted o (yielded ops a.tmps) = true ∧ ((execOp a.eval o).run P w = .ok (.value v) w' ∨ ((execOp a.eval o).run P w = .ok .skip w' ∧ v = undef))
def mixOp (P : Program) (ops : Array Oper) (S : World → Prop) (ks : List Nat) (i : Nat) (K : Act → World → Prop) (a : Act) (w : World) : Prop :=
  match ops[i]? with
  | none => K a w
  | some o => if ks.getD i 0 < 2 then ∃ v, ReadsTo P ops S (ks.getD i 0) o v a ∧ K (a.put o.dst v) w
    else ∃ v w', WritesTo P ops o v a w w' ∧ (ks.getD i 0 = 2 → S w') ∧ K (a.put o.dst v) w'
def wpAnyM (P : Program) (md : Region.Mode) (ops : Array Oper) (S : World → Prop) (ks : List Nat) (Q : Act → World → Prop) : Nat → Array Bool → Act → World → Prop
  | 0, listed, a, w => Region.ready md ops listed = [] ∧ Q a w
  | fuel + 1, listed, a, w =>
    (Region.ready md ops listed = [] → Q a w) ∧
    ∀ i ∈ Region.ready md ops listed, mixOp P ops S ks i (wpAnyM P md ops S ks Q fuel (listed.setIfInBounds i true)) a w
def wpMix (P : Program) (ops : Array Oper) (S : World → Prop) (ks : List Nat) (Q : Act → World → Prop) : Nat → List Oper → Act → World → Prop
  | _, [], a, w => Q a w
  | i, o :: rest, a, w => if ks.getD i 0 < 2 then ∃ v, ReadsTo P ops S (ks.getD i 0) o v a ∧ wpMix P ops S ks Q (i + 1) rest (a.put o.dst v) w
    else ∃ v w', WritesTo P ops o v a w w' ∧ (ks.getD i 0 = 2 → S w') ∧ wpMix P ops S ks Q (i + 1) rest (a.put o.dst v) w'

theorem ReadsTo.of_same {k : Nat} {o : Oper} {v : Value} {a a' : Act} (hy : ReadsTo P ops S k o v a) (he : execOp a'.eval o = execOp a.eval o)
    (hw : Region.wanted o (yielded ops a'.tmps) = Region.wanted o (yielded ops a.tmps)) : ReadsTo P ops S k o v a' := by
  unfold ReadsTo at *
  rw [he, hw]
  exact hy
theorem WritesTo.of_same {o : Oper} {v : Value} {a a' : Act} {w w' : World} (hy : WritesTo P ops o v a w w') (he : execOp a'.eval o = execOp a.eval o)
    (hw : Region.wanted o (yielded ops a'.tmps) = Region.wanted o (yielded ops a.tmps)) : WritesTo P ops o v a' w w' := by
  unfold WritesTo at *
  rw [he, hw]
  exact hy

/-- What is asked of the kinds. -/
def kindsB (md : Region.Mode) (ops : Array Oper) (ks : List Nat) : Bool :=
  (List.range ops.size).all fun i => (List.range ops.size).all fun j =>
    !(decide (i < j) && ((decide (2 ≤ ks.getD i 0) && decide (2 ≤ ks.getD j 0)) || (decide (ks.getD i 0 = 1) && decide (2 < ks.getD j 0)))) ||
      (match ops[j]? with | some oj => oj.after.any (fun e => Region.binds md e && e.on == i) | none => false)
def lateB (ops : Array Oper) (ks : List Nat) : Bool :=
  (List.range ops.size).all fun i => (List.range ops.size).all fun j => !(decide (i < j) && decide (2 < ks.getD i 0) && decide (ks.getD j 0 = 1))
theorem kinds_waits {i j : Nat} {oj : Oper} (h : kindsB md ops ks = true) (hj : ops[j]? = some oj) (hij : i < j) (hk : (2 ≤ ks.getD i 0 ∧ 2 ≤ ks.getD j 0) ∨ (ks.getD i 0 = 1 ∧ 2 < ks.getD j 0)) :
    ∃ e ∈ oj.after, Region.binds md e = true ∧ e.on = i := by
  have hjs : j < ops.size := (Array.getElem?_eq_some_iff.1 hj).1
  simp only [kindsB, List.all_eq_true, List.mem_range] at h
  have h1 := h i (by omega) j hjs
  simp only [hj] at h1
  have h2 : (decide (i < j) && ((decide (2 ≤ ks.getD i 0) && decide (2 ≤ ks.getD j 0)) || (decide (ks.getD i 0 = 1) && decide (2 < ks.getD j 0)))) = true := by
    rcases hk with ⟨a, b⟩ | ⟨a, b⟩ <;> simp only [Bool.and_eq_true, Bool.or_eq_true, decide_eq_true_eq]
    · exact ⟨hij, .inl ⟨a, b⟩⟩
    · exact ⟨hij, .inr ⟨a, b⟩⟩
  rw [h2] at h1
  simp only [Bool.not_true, Bool.false_or] at h1
  obtain ⟨e, he, hb⟩ := Array.any_eq_true'.1 h1
  simp only [Bool.and_eq_true, beq_iff_eq] at hb
  exact ⟨e, he, hb.1, hb.2⟩
theorem late_no {i j : Nat} (h : lateB ops ks = true) (hi : i < ops.size) (hj : j < ops.size) (hij : i < j) (hk : 2 < ks.getD i 0) : ks.getD j 0 ≠ 1 := fun e => by
  simp only [lateB, List.all_eq_true, List.mem_range] at h
  have := h i hi j hj
  rw [decide_eq_true hij, decide_eq_true hk, decide_eq_true e] at this
  cases this

/-- A load that has not been done yet. -/
def Loads (ops : Array Oper) (ks : List Nat) (listed : Array Bool) : Prop := ∃ j, j < ops.size ∧ ks.getD j 0 = 1 ∧ listed.getD j true = false
theorem Loads.less {listed : Array Bool} {i : Nat} (h : Loads ops ks (listed.setIfInBounds i true)) : Loads ops ks listed := by
  obtain ⟨j, h1, h2, h3⟩ := h
  by_cases e : i = j
  · subst e
    rcases Nat.lt_or_ge i listed.size with h' | h' <;> simp [h'] at h3
  · rw [getD_set_ne true e] at h3
    exact ⟨j, h1, h2, h3⟩

theorem wpAny_of_mix {Q : Act → World → Prop} {Q' : Exit → Act → World → Prop} (hk : kindsB md ops ks = true) (hl : lateB ops ks = true) (hQ : ∀ a w, Q a w → Q' .normal a w) : ∀ (fuel : Nat) (listed : Array Bool) (a : Act) (w : World),
    (Loads ops ks listed → S w) → wpAnyM P md ops S ks Q fuel listed a w → wpAny P md ops Q' fuel listed a w
  | 0, _, _, _, _, h => ⟨h.1, hQ _ _ h.2⟩
  | fuel + 1, listed, a, w, hS, h => ⟨fun h0 => hQ _ _ (h.1 h0), fun i hi => by
      have h2 := h.2 i hi
      obtain ⟨hun, o, ho, hall⟩ := mem_ready.1 hi
      have hil : i < ops.size := (Array.getElem?_eq_some_iff.1 ho).1
      unfold mixOp at h2
      unfold wpOp
      simp only [ho] at h2 ⊢
      by_cases hr : ks.getD i 0 < 2
      · rw [if_pos hr] at h2
        obtain ⟨v, ⟨hw, hy⟩ | ⟨hw, rfl⟩, hK⟩ := h2
        · rw [if_pos hw]
          refine .inl ?_
          unfold Oper.wp
          rcases hy w (fun e => hS ⟨i, hil, e, hun⟩) with hv | ⟨hv, rfl⟩
          · rw [hv]; exact wpAny_of_mix hk hl hQ fuel _ _ _ (fun hm => hS hm.less) hK
          · rw [hv]; exact wpAny_of_mix hk hl hQ fuel _ _ _ (fun hm => hS hm.less) hK
        · rw [if_neg (by rw [hw]; decide)]
          exact wpAny_of_mix hk hl hQ fuel _ _ _ (fun hm => hS hm.less) hK
      · rw [if_neg hr] at h2
        obtain ⟨v, w', ⟨hw, hv⟩, hSw, hK⟩ := h2
        have hS' : Loads ops ks (listed.setIfInBounds i true) → S w' := fun hm => by
          by_cases e2 : ks.getD i 0 = 2
          · exact hSw e2
          · obtain ⟨j, h1, h2, h3⟩ := hm
            have hji : i ≠ j := fun e => by subst e; omega
            have hun2 : listed.getD j true = false := by rw [getD_set_ne true hji] at h3; exact h3
            rcases Nat.lt_or_ge i j with hlt | hge
            · exact absurd h2 (late_no hl hil h1 hlt (by omega))
            · obtain ⟨e, he, hb, hon⟩ := kinds_waits (i := j) (j := i) hk ho (by omega) (.inr ⟨h2, by omega⟩)
              have := hall e he hb
              rw [hon] at this
              rcases Nat.lt_or_ge j listed.size with h' | h'
              · simp [h'] at this hun2; rw [hun2] at this; cases this
              · simp [Array.getElem?_eq_none h'] at this
        rw [if_pos hw]
        refine .inl ?_
        unfold Oper.wp
        rcases hv with hv | ⟨hv, rfl⟩
        · rw [hv]; exact wpAny_of_mix hk hl hQ fuel _ _ _ hS' hK
        · rw [hv]; exact wpAny_of_mix hk hl hQ fuel _ _ _ hS' hK⟩

theorem mix_waits_not {i j : Nat} {listed : Array Bool} (hi : i ∈ Region.ready md ops listed) (hj : j ∈ Region.ready md ops listed) {oj : Oper} (hoj : ops[j]? = some oj) :
    ∀ e ∈ oj.after, Region.binds md e = true → e.on ≠ i := fun e he hb heq => by
  obtain ⟨_, oj', hoj', hall⟩ := mem_ready.1 hj
  rw [hoj] at hoj'; cases hoj'
  have h1 := hall e he hb
  have h0 := (mem_ready.1 hi).1
  rw [heq] at h1
  rcases Nat.lt_or_ge i listed.size with h' | h'
  · simp [h'] at h0 h1; rw [h0] at h1; cases h1
  · simp [Array.getElem?_eq_none h'] at h1

/-- An operation that is next in the text may come first. -/
theorem wpAnyM_first {Q : Act → World → Prop} {i : Nat} {oi : Oper} (hi : ops[i]? = some oi) (hk : kindsB md ops ks = true) (hsel : ∀ (j : Nat) (o : Oper) cs b, ops[j]? = some o → o.op ≠ .select cs b) :
    ∀ (fuel : Nat) (listed : Array Bool) (a : Act) (w : World),
      (∀ j oj, ops[j]? = some oj → j ≠ i → listed.getD j true = false → (∀ e ∈ oj.after, Region.binds md e = true → e.on ≠ i) → oi.apart ops oj = true) →
      (∀ j, j < i → listed.getD j true = true) →
      i ∈ Region.ready md ops listed → mixOp P ops S ks i (fun a' w' => wpAnyM P md ops S ks Q fuel (listed.setIfInBounds i true) a' w') a w →
      wpAnyM P md ops S ks Q (fuel + 1) listed a w := by
  intro fuel
  induction fuel with
  | zero =>
    intro listed a w _ _ hr H
    refine ⟨fun h => (by rw [h] at hr; cases hr), fun j hj => ?_⟩
    by_cases hji : j = i
    · subst hji; exact H
    · have h0 : ∀ a w, wpAnyM P md ops S ks Q 0 (listed.setIfInBounds i true) a w → False := fun a w h => by
        have := ready_mono hj hji
        rw [h.1] at this
        cases this
      unfold mixOp at H
      simp only [hi] at H
      split at H
      · obtain ⟨v, _, hK⟩ := H; exact (h0 _ _ hK).elim
      · obtain ⟨v, w', _, _, hK⟩ := H; exact (h0 _ _ hK).elim
  | succ fuel ih =>
    intro listed a w hfree hlow hr H
    refine ⟨fun h => (by rw [h] at hr; cases hr), fun j hj => ?_⟩
    by_cases hji : j = i
    · subst hji; exact H
    · obtain ⟨hjun, oj, hoj, hall⟩ := mem_ready.1 hj
      have hnot := mix_waits_not hr hj hoj
      have hap := hfree j oj hoj hji hjun hnot
      obtain ⟨p1, p2, p3⟩ := Oper.apart_spec hap
      have hij : i < j := by
        rcases Nat.lt_or_ge j i with h' | h'
        · rw [hlow j h'] at hjun; cases hjun
        · omega
      have hfree' : ∀ k ok, ops[k]? = some ok → k ≠ i → (listed.setIfInBounds j true).getD k true = false →
          (∀ e ∈ ok.after, Region.binds md e = true → e.on ≠ i) → oi.apart ops ok = true := fun k ok hk hki hun hno => by
        refine hfree k ok hk hki ?_ hno
        by_cases hjk : j = k
        · subst hjk; exact hjun
        · rw [getD_set_ne true hjk] at hun; exact hun
      have hlow' : ∀ k, k < i → (listed.setIfInBounds j true).getD k true = true := fun k hk => by
        rw [getD_set_ne true (by omega)]; exact hlow k hk
      have hr' := ready_mono hr (Ne.symm hji)
      have ri : ∀ {k v}, ReadsTo P ops S k oi v a → ∀ u, ReadsTo P ops S k oi v (a.put oj.dst u) := fun h u =>
        h.of_same (execOp_put oi (fun cs b => hsel i oi cs b hi) a oj.dst u p3) (wanted_put oi a oj.dst u p3)
      have wi : ∀ {v w w'}, WritesTo P ops oi v a w w' → ∀ u, WritesTo P ops oi v (a.put oj.dst u) w w' := fun h u =>
        h.of_same (execOp_put oi (fun cs b => hsel i oi cs b hi) a oj.dst u p3) (wanted_put oi a oj.dst u p3)
      have rj : ∀ {k u}, ∀ v, ReadsTo P ops S k oj u (a.put oi.dst v) → ReadsTo P ops S k oj u a := fun v h =>
        h.of_same (execOp_put oj (fun cs b => hsel j oj cs b hoj) a oi.dst v p1).symm (wanted_put oj a oi.dst v p1).symm
      have wj : ∀ {u w w'}, ∀ v, WritesTo P ops oj u (a.put oi.dst v) w w' → WritesTo P ops oj u a w w' := fun v h =>
        h.of_same (execOp_put oj (fun cs b => hsel j oj cs b hoj) a oi.dst v p1).symm (wanted_put oj a oi.dst v p1).symm
      have go : ∀ u w', mixOp P ops S ks i (fun a' w' => wpAnyM P md ops S ks Q fuel ((listed.setIfInBounds j true).setIfInBounds i true) a' w') (a.put oj.dst u) w' →
          wpAnyM P md ops S ks Q (fuel + 1) (listed.setIfInBounds j true) (a.put oj.dst u) w' := fun u w' h => ih _ _ _ hfree' hlow' hr' h
      unfold mixOp at H
      simp only [hi] at H
      by_cases hri : ks.getD i 0 < 2
      · rw [if_pos hri] at H
        obtain ⟨v, hy, hK⟩ := H
        have h1 := hK.2 j (ready_mono hj hji)
        unfold mixOp at h1 ⊢
        simp only [hoj] at h1 ⊢
        by_cases hrj : ks.getD j 0 < 2
        · rw [if_pos hrj] at h1 ⊢
          obtain ⟨u, hu, hK2⟩ := h1
          refine ⟨u, rj v hu, go u w ?_⟩
          unfold mixOp
          simp only [hi, if_pos hri]
          refine ⟨v, ri hy u, ?_⟩
          rw [← Act.put_comm a v u p2, Array.setIfInBounds_comm _ _ hji]
          exact hK2
        · rw [if_neg hrj] at h1 ⊢
          obtain ⟨u, w', hu, hS, hK2⟩ := h1
          refine ⟨u, w', wj v hu, hS, go u w' ?_⟩
          unfold mixOp
          simp only [hi, if_pos hri]
          refine ⟨v, ri hy u, ?_⟩
          rw [← Act.put_comm a v u p2, Array.setIfInBounds_comm _ _ hji]
          exact hK2
      · rw [if_neg hri] at H
        obtain ⟨v, w', hy, hS, hK⟩ := H
        have hrj : ks.getD j 0 < 2 := by
          rcases Nat.lt_or_ge (ks.getD j 0) 2 with h' | h'
          · exact h'
          · obtain ⟨e, he, hb, hon⟩ := kinds_waits (i := i) (j := j) hk hoj hij (.inl ⟨by omega, h'⟩)
            exact absurd hon (hnot e he hb)
        have h1 := hK.2 j (ready_mono hj hji)
        unfold mixOp at h1 ⊢
        simp only [hoj] at h1 ⊢
        rw [if_pos hrj] at h1 ⊢
        obtain ⟨u, hu, hK2⟩ := h1
        refine ⟨u, rj v hu, go u w ?_⟩
        unfold mixOp
        simp only [hi, if_neg hri]
        refine ⟨v, w', wi hy u, hS, ?_⟩
        rw [← Act.put_comm a v u p2, Array.setIfInBounds_comm _ _ hji]
        exact hK2
theorem wpAnyM_lex {Q : Act → World → Prop} (hs : Region.noSelect ops = true) (hk : kindsB md ops ks = true) : ∀ (l : List Oper) (k : Nat) (listed : Array Bool) (a : Act) (w : World), (∀ j, l[j]? = ops[k + j]?) → (∀ j, j < k → listed.getD j true = true) →
    Region.lexFrom md ops l.length k listed = true → wpMix P ops S ks Q k l a w → wpAnyM P md ops S ks Q l.length listed a w
  | [], _, _, _, _, _, _, hB, h => ⟨by simpa [Region.lexFrom] using hB, h⟩
  | o :: l, k, listed, a, w, hl, hlow, hB, h => by
    have h0 : ops[k]? = some o := by simpa using (hl 0).symm
    simp only [List.length_cons, Region.lexFrom, Bool.and_eq_true] at hB
    obtain ⟨⟨hr, hf⟩, hB'⟩ := hB
    have hlow' : ∀ j, j < k + 1 → (listed.setIfInBounds k true).getD j true = true := fun j hj => by
      by_cases e : k = j
      · subst e
        rcases Nat.lt_or_ge k listed.size with h' | h' <;> simp [h']
      · rw [getD_set_ne true e]; exact hlow j (by omega)
    have next : ∀ a w, wpMix P ops S ks Q (k + 1) l a w → wpAnyM P md ops S ks Q l.length (listed.setIfInBounds k true) a w := fun a w h =>
      wpAnyM_lex hs hk l (k + 1) _ a w (fun j => by have := hl (j + 1); simpa [Nat.add_assoc, Nat.add_comm 1 j] using this) hlow' hB' h
    refine wpAnyM_first h0 hk (Region.noSelect_spec hs) l.length listed a w (Region.free_spec h0 hf) hlow (by simpa using hr) ?_
    unfold wpMix at h
    unfold mixOp
    simp only [h0]
    split at h
    · rename_i hlt
      rw [if_pos hlt]
      obtain ⟨v, hy, hK⟩ := h
      exact ⟨v, hy, next _ _ hK⟩
    · rename_i hlt
      rw [if_neg hlt]
      obtain ⟨v, w', hy, hS, hK⟩ := h
      exact ⟨v, w', hy, hS, next _ _ hK⟩

/-- THE LAW. -/
theorem wp_region_mix {id : Nat} {Q : Exit → Act → World → Prop} {a : Act} {w : World} {l : List Oper} (ks : List Nat) (S : World → Prop) (hm : P.follows .mixedOrders = true)
    (hB : (Region.lexB .any l.toArray && kindsB .any l.toArray ks && lateB l.toArray ks) = true) (hS : S w.drew)
    (h : wpMix P l.toArray S ks (Q .normal) 0 l a w.drew) : (Code.region id l.toArray true).wp P Q a w := by
  simp only [Region.lexB, Bool.and_eq_true] at hB
  refine wp_region_any hm (wpAny_of_mix (Q := Q .normal) (S := S) (ks := ks) hB.1.2 hB.2 (fun a' w' h1 => h1) _ _ _ _ (fun _ => hS) ?_)
  have := wpAnyM_lex (P := P) (S := S) (ks := ks) (md := .any) hB.1.1.1 hB.1.2 l 0 (Array.replicate l.toArray.size false) a w.drew (by simp) (by omega) (by simpa using hB.1.1.2) h
  simpa using this

/-! The steps -/
variable {Q : Act → World → Prop} {o : Oper} {rest : List Oper} {a : Act} {w : World} {i : Nat}
theorem atM (o : Oper) {rest : List Oper} {a : Act} (h : wpMix P ops S ks Q i (o :: rest) a w) : wpMix P ops S ks Q i (o :: rest) a w := h
theorem wpMix_end (h : Q a w) : wpMix P ops S ks Q i [] a w := h
theorem wpMix_value (v : Value) (hk : ks.getD i 0 = 0) (hw : Region.wanted o (yielded ops a.tmps) = true) (hr : ∀ w, (execOp a.eval o).run P w = .ok (.value v) w) (h : wpMix P ops S ks Q (i + 1) rest (a.put o.dst v) w) : wpMix P ops S ks Q i (o :: rest) a w := by
  unfold wpMix
  rw [if_pos (by omega)]
  exact ⟨v, .inl ⟨hw, fun w _ => .inl (hr w)⟩, h⟩
theorem wpMix_read (v : Value) (hk : ks.getD i 0 = 1) (hw : Region.wanted o (yielded ops a.tmps) = true) (hr : ∀ w, S w → (execOp a.eval o).run P w = .ok (.value v) w) (h : wpMix P ops S ks Q (i + 1) rest (a.put o.dst v) w) : wpMix P ops S ks Q i (o :: rest) a w := by
  unfold wpMix
  rw [if_pos (by omega)]
  exact ⟨v, .inl ⟨hw, fun w hS => .inl (hr w (hS hk))⟩, h⟩
theorem wpMix_not (hk : ks.getD i 0 = 0 ∨ ks.getD i 0 = 1) (hw : Region.wanted o (yielded ops a.tmps) = false) (h : wpMix P ops S ks Q (i + 1) rest (a.put o.dst undef) w) : wpMix P ops S ks Q i (o :: rest) a w := by
  unfold wpMix
  rw [if_pos (by omega)]
  exact ⟨undef, .inr ⟨hw, rfl⟩, h⟩
theorem wpMix_write (v : Value) (w' : World) (hk : 2 ≤ ks.getD i 0) (hw : Region.wanted o (yielded ops a.tmps) = true) (hr : (execOp a.eval o).run P w = .ok (.value v) w') (hS : ks.getD i 0 = 2 → S w') (h : wpMix P ops S ks Q (i + 1) rest (a.put o.dst v) w') : wpMix P ops S ks Q i (o :: rest) a w := by
  unfold wpMix
  rw [if_neg (by omega)]
  exact ⟨v, w', ⟨hw, .inl hr⟩, hS, h⟩
theorem wpMix_skip (w' : World) (hk : 2 ≤ ks.getD i 0) (hw : Region.wanted o (yielded ops a.tmps) = true) (hr : (execOp a.eval o).run P w = .ok .skip w') (hS : ks.getD i 0 = 2 → S w') (h : wpMix P ops S ks Q (i + 1) rest (a.put o.dst undef) w') : wpMix P ops S ks Q i (o :: rest) a w := by
  unfold wpMix
  rw [if_neg (by omega)]
  exact ⟨undef, w', ⟨hw, .inr ⟨hr, rfl⟩⟩, hS, h⟩
theorem wpMix_append (hk : 2 ≤ ks.getD i 0) (hw : Region.wanted o (yielded ops a.tmps) = true) (s x : Operand) (t : TypeId)
    (ho : o.op = .call { callee := .builtin .append, args := #[s, x], argTypes := #[t, t] })
    (base : Nat) (e : TypeId) (i0 : TypeInfo) (z : Value) (size bytes : Nat) (ht : P.underlying t = some (.slice e)) (hi : P.info? e = some i0) (hz : i0.zero = some z)
    (hsize : i0.size = size) (hby : i0.bytes = bytes) (hzs : z.cells.size = size) (hsz : 0 < size)
    (v : Value) (n : Nat) (xs : List Value) (hs : a.eval s = v) (hown : w.ownsRow base e size v n xs)
    (ad : Addr) (m c : Nat) (news : List Value) (hx : a.eval x = .slice (some ad) m c) (hl : news.length = m * size) (hnews : ∀ j u, news[j]? = some u → w.cell? (ad.add j) = some u) (h1 : ∀ u ∈ news, u.oneCell' = true)
    (hm : 0 < m) (h63 : n + m ≤ maxLen) (hbytes : (n + m) * bytes ≤ 140737488355328) (hbase : base ≤ w.heap.size) (H : Nat) (hH : w.heap.size = H)
    (h : ∀ g cap w', w'.ownsRow base e size (.slice (some ⟨g, 0, none⟩) (n + m) cap) (n + m) (xs ++ news) → w.grownBy w' v.ownBlock → (v.ownBlock = some g ∨ g = H) → g < w'.heap.size →
      (ks.getD i 0 = 2 → S w') ∧ wpMix P ops S ks Q (i + 1) rest (a.put o.dst (.slice (some ⟨g, 0, none⟩) (n + m) cap)) w') : wpMix P ops S ks Q i (o :: rest) a w := by
  obtain ⟨g, cap, w', hr, h2, h3, h4, h5⟩ := run_append_lies (P := P) w t o.type base e i0 z size bytes ht hi hz hsize hby hzs hsz v n xs hown ad m c news hl hnews h1 hm h63 hbytes hbase H hH
  obtain ⟨k1, k2⟩ := h g cap w' h2 h3 h4 h5
  refine wpMix_write _ w' hk hw ?_ k1 k2
  unfold execOp
  simp only [ho, resolve, invoke, builtin, Sem.run_bind, Sem.run_pure, Result.andThen_ok, List.map_toArray, List.map_cons, List.map_nil, hs, hx, hr]
end
end Go.Proofs.Ytbdhjkdojgdhbaa
