/-
  A region that draws its order: operations whose values are known in every world that keeps S, a block that is made somewhere among them, and a last operation that waits for all (x := T{..} with calls in it).
  The block's address hangs on the order: the walk goes on for any address.
-/
import Derived.Test.YtcoclaabainibaaDoorSure
import Derived.Test.YtcoclaabainibaaDoorFr
namespace Go.Proofs.YtcoclaabainibaaDoor.A
open Go Go.Proofs.YtcoclaabainibaaDoor Go.ChangeShapes Go.WideShapes Go.ChangeAt Go.RowKit

section
variable {P : Program} {ops : Array Oper} {md : Region.Mode} {S : World → Prop} {p q : Nat}

/-- In every world that keeps S the operation gives v, keeps S and turns nothing that lies there. -/
def YieldsX (P : Program) (ops : Array Oper) (S : World → Prop) (o : Oper) (v : Value) (a : Act) : Prop :=
  ∀ w1, YieldsS P ops (fun W => S W ∧ Fr (fun _ => False) w1 W) o v a
def suOp (P : Program) (ops : Array Oper) (S : World → Prop) (p i : Nat) (K : Option Nat → Act → Prop) (s : Option Nat) (a : Act) : Prop :=
  match ops[i]? with
  | none => K s a
  | some o => if i = p then ∀ g : Nat, K (some g) (a.put o.dst (.pointer (some ⟨g, 0, none⟩))) else ∃ v, YieldsX P ops S o v a ∧ K s (a.put o.dst v)
def wpSure (P : Program) (ops : Array Oper) (S : World → Prop) (Q : Act → Prop) : List Oper → Act → Prop
  | [], a => Q a
  | o :: rest, a => ∃ v, YieldsX P ops S o v a ∧ wpSure P ops S Q rest (a.put o.dst v)
theorem wpSure_mono {Q Q' : Act → Prop} (h : ∀ a, Q a → Q' a) : ∀ (l : List Oper) (a : Act), wpSure P ops S Q l a → wpSure P ops S Q' l a
  | [], a, hh => h a hh
  | _ :: l, _, ⟨v, hy, hk⟩ => ⟨v, hy, wpSure_mono h l _ hk⟩
theorem suOp_mono {i : Nat} {s : Option Nat} {a : Act} {K K' : Option Nat → Act → Prop} (h : ∀ s a, K s a → K' s a) (hh : suOp P ops S p i K s a) : suOp P ops S p i K' s a := by
  unfold suOp at *
  split
  · exact h _ _ (by simpa [*] using hh)
  · rename_i o ho
    simp only [ho] at hh
    by_cases e : i = p
    · rw [if_pos e] at hh ⊢; exact fun g => h _ _ (hh g)
    · rw [if_neg e] at hh ⊢
      obtain ⟨v, hy, hk⟩ := hh
      exact ⟨v, hy, h _ _ hk⟩
def wpAnyA (P : Program) (md : Region.Mode) (ops : Array Oper) (S : World → Prop) (p q : Nat) (Q : Nat → Act → Prop) : Nat → Array Bool → Option Nat → Act → Prop
  | 0, listed, s, a => Region.ready md ops listed = [q] ∧ Region.ready md ops (listed.setIfInBounds q true) = [] ∧ ∃ g, s = some g ∧ Q g a
  | fuel + 1, listed, s, a =>
    (∃ i, i ∈ Region.ready md ops listed) ∧ ∀ i ∈ Region.ready md ops listed, i ≠ q ∧ suOp P ops S p i (wpAnyA P md ops S p q Q fuel (listed.setIfInBounds i true)) s a
theorem YieldsX.of_same {o : Oper} {v : Value} {a a' : Act} (hy : YieldsX P ops S o v a) (he : execOp a'.eval o = execOp a.eval o)
    (hw : Region.wanted o (yielded ops a'.tmps) = Region.wanted o (yielded ops a.tmps)) : YieldsX P ops S o v a' := fun w1 => (hy w1).of_same he hw

theorem suOp_put {j : Nat} {oi oj : Oper} {v : Value} (hj : ops[j]? = some oj) (hap : oi.apart ops oj = true)
    (hsi : ∀ cs b, oi.op ≠ .select cs b) (hsj : ∀ cs b, oj.op ≠ .select cs b) {K : Option Nat → Act → Prop} {s : Option Nat} {a : Act}
    (hy : YieldsX P ops S oi v a) (h : suOp P ops S p j K s (a.put oi.dst v)) :
    suOp P ops S p j (fun s' a' => YieldsX P ops S oi v a' ∧ K s' (a'.put oi.dst v)) s a := by
  obtain ⟨h1, h2, h3⟩ := Oper.apart_spec hap
  unfold suOp at *
  simp only [hj] at *
  by_cases e : j = p
  · rw [if_pos e] at h ⊢
    intro g
    refine ⟨hy.of_same (execOp_put oi hsi a oj.dst _ h3) (wanted_put oi a oj.dst _ h3), ?_⟩
    rw [← Act.put_comm a v _ h2]
    exact h g
  · rw [if_neg e] at h ⊢
    obtain ⟨u, hu, hk⟩ := h
    refine ⟨u, hu.of_same (execOp_put oj hsj a oi.dst v h1).symm (wanted_put oj a oi.dst v h1).symm, hy.of_same (execOp_put oi hsi a oj.dst u h3) (wanted_put oi a oj.dst u h3), ?_⟩
    rw [← Act.put_comm a v u h2]
    exact hk
/-- q waits for all. -/
def lastB (md : Region.Mode) (ops : Array Oper) (q : Nat) : Bool :=
  (List.range ops.size).all fun i => (i == q) || (match ops[q]? with | some oq => oq.after.any (fun e => Region.binds md e && e.on == i) | none => false)
theorem last_ready {listed : Array Bool} (hl : lastB md ops q = true) (h : q ∈ Region.ready md ops listed) (i : Nat) (hi : i < ops.size) (hne : i ≠ q) : listed.getD i false = true := by
  obtain ⟨_, oq, hq, hall⟩ := mem_ready.1 h
  simp only [lastB, List.all_eq_true, List.mem_range] at hl
  have h1 := hl i hi
  simp only [hq, Bool.or_eq_true, beq_iff_eq] at h1
  rcases h1 with h1 | h1
  · exact absurd h1 hne
  · obtain ⟨e, he, hb⟩ := Array.any_eq_true'.1 h1
    simp only [Bool.and_eq_true, beq_iff_eq] at hb
    rw [← hb.2]; exact hall e he hb.1
theorem not_both {listed : Array Bool} {j : Nat} (h1 : listed.getD j false = true) (h2 : listed.getD j true = false) : False := by
  rcases Nat.lt_or_ge j listed.size with h' | h'
  · simp [h'] at h1 h2; rw [h2] at h1; cases h1
  · simp [Array.getElem?_eq_none h'] at h1
theorem wpAnyA_first {Q : Nat → Act → Prop} {i : Nat} {oi : Oper} {v : Value} (hl : lastB md ops q = true) (hip : i ≠ p) (hiq : i ≠ q) (hi : ops[i]? = some oi) (hsel : ∀ (j : Nat) (o : Oper) cs b, ops[j]? = some o → o.op ≠ .select cs b) :
    ∀ (fuel : Nat) (listed : Array Bool) (s : Option Nat) (a : Act),
      (∀ j oj, ops[j]? = some oj → j ≠ i → listed.getD j true = false → (∀ e ∈ oj.after, Region.binds md e = true → e.on ≠ i) → oi.apart ops oj = true) →
      i ∈ Region.ready md ops listed → YieldsX P ops S oi v a →
      wpAnyA P md ops S p q Q fuel (listed.setIfInBounds i true) s (a.put oi.dst v) → wpAnyA P md ops S p q Q (fuel + 1) listed s a := by
  have hil : i < ops.size := (Array.getElem?_eq_some_iff.1 hi).1
  have noq : ∀ listed : Array Bool, i ∈ Region.ready md ops listed → q ∉ Region.ready md ops listed := fun listed hr h =>
    not_both (last_ready hl h i hil hiq) (mem_ready.1 hr).1
  intro fuel
  induction fuel with
  | zero =>
    intro listed s a _ hr hy H
    refine ⟨⟨i, hr⟩, fun j hj => ?_⟩
    by_cases hji : j = i
    · subst hji
      refine ⟨hiq, ?_⟩
      unfold suOp; simp only [hi]; rw [if_neg hip]; exact ⟨v, hy, H⟩
    · have h1 := ready_mono hj hji
      rw [H.1] at h1
      simp only [List.mem_singleton] at h1
      subst h1
      exact absurd hj (noq listed hr)
  | succ fuel ih =>
    intro listed s a hfree hr hy H
    refine ⟨⟨i, hr⟩, fun j hj => ?_⟩
    have hjq : j ≠ q := fun e => by subst e; exact absurd hj (noq listed hr)
    refine ⟨hjq, ?_⟩
    by_cases hji : j = i
    · subst hji
      unfold suOp; simp only [hi]; rw [if_neg hip]; exact ⟨v, hy, H⟩
    · have h1 := (H.2 j (ready_mono hj hji)).2
      obtain ⟨hjun, oj, hoj, hall⟩ := mem_ready.1 hj
      have hnot : ∀ e ∈ oj.after, Region.binds md e = true → e.on ≠ i := fun e he hb heq => by
        have h1 := hall e he hb
        have h0 := (mem_ready.1 hr).1
        rw [heq] at h1
        exact not_both h1 h0
      have h2 := suOp_put hoj (hfree j oj hoj hji hjun hnot) (fun cs b => hsel i oi cs b hi) (fun cs b => hsel j oj cs b hoj) hy h1
      have hfree' : ∀ k ok, ops[k]? = some ok → k ≠ i → (listed.setIfInBounds j true).getD k true = false →
          (∀ e ∈ ok.after, Region.binds md e = true → e.on ≠ i) → oi.apart ops ok = true := fun k ok hk hki hun hno => by
        refine hfree k ok hk hki ?_ hno
        by_cases hjk : j = k
        · subst hjk; exact hjun
        · rw [getD_set_ne true hjk] at hun; exact hun
      refine suOp_mono (fun s' a' h3 => ih (listed.setIfInBounds j true) s' a' hfree' (ready_mono hr (Ne.symm hji)) h3.1 ?_) h2
      rw [Array.setIfInBounds_comm _ _ hji]
      exact h3.2
theorem wpAnyA_lex {Q : Nat → Act → Prop} {op oq : Oper} (hs : Region.noSelect ops = true) (hla : lastB md ops q = true) (hp : ops[p]? = some op) (hq : ops[q]? = some oq) (hpq : p + 1 = q) : ∀ (l : List Oper) (k : Nat) (listed : Array Bool) (a : Act), (∀ j, j < l.length → l[j]? = ops[k + j]?) → k + l.length = p →
    Region.lexFrom md ops (l.length + 2) k listed = true → wpSure P ops S (fun a' => ∀ g : Nat, Q g (a'.put op.dst (.pointer (some ⟨g, 0, none⟩)))) l a → wpAnyA P md ops S p q Q (l.length + 1) listed none a
  | [], k, listed, a, _, hk, hB, h => by
    obtain rfl : k = p := by simpa using hk
    subst hpq
    simp only [List.length_nil, Region.lexFrom, Bool.and_eq_true, List.contains_iff_mem, List.isEmpty_iff] at hB
    obtain ⟨⟨hr, _⟩, ⟨hr2, _⟩, hE⟩ := hB
    have hps : k < ops.size := (Array.getElem?_eq_some_iff.1 hp).1
    have hone : Region.ready md ops (listed.setIfInBounds k true) = [k + 1] := by
      have hall : ∀ j ∈ Region.ready md ops (listed.setIfInBounds k true), j = k + 1 := fun j hj => by
        by_cases e : j = k + 1
        · exact e
        · have := ready_mono hj e
          rw [hE] at this; cases this
      have hnd : (Region.ready md ops (listed.setIfInBounds k true)).Nodup := by
        unfold Region.ready
        exact List.Pairwise.filter _ List.nodup_range
      generalize Region.ready md ops (listed.setIfInBounds k true) = L at *
      match L, hr2, hall, hnd with
      | [x], _, ha, _ => rw [ha x (by simp)]
      | x :: y :: L, _, ha, hn =>
        have h1 := ha x (by simp)
        have h2 := ha y (by simp)
        rw [h1, h2] at hn
        simp at hn
    refine ⟨⟨k, hr⟩, fun j hj => ?_⟩
    have hjk : j = k := by
      by_cases e : j = k
      · exact e
      · have := ready_mono hj e
        rw [hone] at this
        simp only [List.mem_singleton] at this
        subst this
        exact absurd (mem_ready.1 hr).1 (fun h0 => not_both (last_ready hla hj k hps (by omega)) h0)
    subst hjk
    refine ⟨by omega, ?_⟩
    unfold suOp
    simp only [hp, if_true]
    intro g
    exact ⟨hone, hE, g, rfl, h g⟩
  | o :: l, k, listed, a, hl, hk, hB, h => by
    have h0 : ops[k]? = some o := by simpa using (hl 0 (by simp)).symm
    simp only [List.length_cons] at hk
    rw [List.length_cons, show l.length + 1 + 2 = (l.length + 2) + 1 by omega] at hB
    rw [Region.lexFrom, Bool.and_eq_true, Bool.and_eq_true] at hB
    obtain ⟨⟨hr, hf⟩, hB'⟩ := hB
    obtain ⟨v, hy, hK⟩ := h
    exact wpAnyA_first hla (by omega) (by omega) h0 (Region.noSelect_spec hs) (l.length + 1) listed none a (Region.free_spec h0 hf) (by simpa using hr) hy
      (wpAnyA_lex hs hla hp hq hpq l (k + 1) _ _ (fun j hj => by have := hl (j + 1) (by simp; omega); simpa [Nat.add_assoc, Nat.add_comm 1 j] using this) (by omega) hB' hK)

theorem wpOp_of_suOp {i : Nat} {s : Option Nat} {a : Act} {w : World} {K : Option Nat → Act → Prop} {K' : Act → World → Prop} {Q' : Exit → Act → World → Prop} {T : Nat → World → Prop} {op : Oper} (hp : ops[p]? = some op) (hgp : op.guard = none)
    (hT : ∀ g w w', T g w → Fr (fun _ => False) w w' → T g w')
    (hal : ∀ (a : Act) w, S w → ∃ w', (execOp a.eval op).run P w = .ok (.value (.pointer (some ⟨w.heap.size, 0, none⟩))) w' ∧ S w' ∧ T w.heap.size w')
    (hS : S w) (hs : ∀ g, s = some g → T g w) (h : ∀ s a w, K s a → S w → (∀ g, s = some g → T g w) → K' a w) (hh : suOp P ops S p i K s a) : wpOp P ops Q' i K' a w := by
  unfold suOp at hh
  unfold wpOp
  split
  · rename_i ho; simp only [ho] at hh; exact h _ _ _ hh hS hs
  · rename_i o ho
    simp only [ho] at hh
    by_cases e : i = p
    · subst e
      rw [hp] at ho; cases ho
      rw [if_pos rfl] at hh
      have hw : Region.wanted op (yielded ops a.tmps) = true := by unfold Region.wanted; rw [hgp]
      rw [if_pos hw]
      refine .inl ?_
      obtain ⟨w', hr, hS', hT'⟩ := hal a w hS
      unfold Oper.wp
      rw [hr]
      exact h _ _ _ (hh w.heap.size) hS' (fun g hg => by cases hg; exact hT')
    · rw [if_neg e] at hh
      obtain ⟨v, hy0, hk⟩ := hh
      have hy1 := hy0 w
      have next : ∀ w', S w' → Fr (fun _ => False) w w' → K' (a.put o.dst v) w' := fun w' hS' hF => h _ _ _ hk hS' (fun g hg => hT g w w' (hs g hg) hF)
      rcases hy1 with ⟨hw, hy⟩ | ⟨hw, rfl⟩
      · rw [if_pos hw]
        refine .inl ?_
        unfold Oper.wp
        rcases hy w ⟨hS, Fr.refl _ _⟩ with ⟨w', hr, hS', hF⟩ | ⟨w', hr, rfl, hS', hF⟩ | ⟨f, args, w', hr, hc⟩
        · rw [hr]; exact next w' hS' hF
        · rw [hr]; exact next w' hS' hF
        · rw [hr]
          exact hc.mono fun e w'' ⟨he, hw', hF⟩ => by subst he; exact next w'' hw' hF
      · rw [if_neg (by rw [hw]; decide)]
        exact next w hS (Fr.refl _ _)
theorem wpAny_of_A {Q : Nat → Act → Prop} {Q' : Exit → Act → World → Prop} {T : Nat → World → Prop} {op : Oper} (hp : ops[p]? = some op) (hgp : op.guard = none)
    (hT : ∀ g w w', T g w → Fr (fun _ => False) w w' → T g w')
    (hal : ∀ (a : Act) w, S w → ∃ w', (execOp a.eval op).run P w = .ok (.value (.pointer (some ⟨w.heap.size, 0, none⟩))) w' ∧ S w' ∧ T w.heap.size w')
    (hQ : ∀ g a w, Q g a → S w → T g w → wpOp P ops Q' q (fun a' w' => Q' .normal a' w') a w) : ∀ (fuel : Nat) (listed : Array Bool) (s : Option Nat) (a : Act) (w : World), S w → (∀ g, s = some g → T g w) →
    wpAnyA P md ops S p q Q fuel listed s a → wpAny P md ops Q' (fuel + 1) listed a w
  | 0, listed, s, a, w, hS, hs, h => by
    unfold wpAnyA at h
    obtain ⟨h1, h2, g, rfl, hg⟩ := h
    refine ⟨fun h0 => (by rw [h1] at h0; cases h0), fun i hi => ?_⟩
    rw [h1] at hi
    simp only [List.mem_singleton] at hi
    subst hi
    refine wpOp_mono (fun a' w' hq => ⟨h2, hq⟩) (hQ g a w hg hS (hs g rfl))
  | fuel + 1, listed, s, a, w, hS, hs, h => by
    refine ⟨fun h0 => ?_, fun i hi => ?_⟩
    · have h1 := h.1
      obtain ⟨i, hi⟩ := h1
      rw [h0] at hi; cases hi
    · exact wpOp_of_suOp hp hgp hT hal hS hs (fun s' a' w' hk hS' hs' => wpAny_of_A hp hgp hT hal hQ fuel _ s' a' w' hS' hs' hk) (h.2 i hi).2

/-- THE LAW. -/
theorem wp_region_new {id : Nat} {Q : Exit → Act → World → Prop} {a : Act} {w : World} {l1 : List Oper} {op oq : Oper} (S : World → Prop) (T : Nat → World → Prop) (hm : P.follows .mixedOrders = true)
    (hB : (Region.lexB .any (l1 ++ [op, oq]).toArray && lastB .any (l1 ++ [op, oq]).toArray (l1.length + 1)) = true) (hgp : op.guard = none) (hgq : oq.guard = none) (hS : S w.drew)
    (hT : ∀ g w w', T g w → Fr (fun _ => False) w w' → T g w')
    (hal : ∀ (a : Act) w, S w → ∃ w', (execOp a.eval op).run P w = .ok (.value (.pointer (some ⟨w.heap.size, 0, none⟩))) w' ∧ S w' ∧ T w.heap.size w')
    (h : wpSure P (l1 ++ [op, oq]).toArray S (fun a' => ∀ g w', S w' → T g w' → wpList P (l1 ++ [op, oq]).toArray Q [oq] (a'.put op.dst (.pointer (some ⟨g, 0, none⟩))) w') l1 a) : (Code.region id (l1 ++ [op, oq]).toArray true).wp P Q a w := by
  simp only [Region.lexB, Bool.and_eq_true] at hB
  obtain ⟨⟨hns, hlx⟩, hla⟩ := hB
  have hp : (l1 ++ [op, oq]).toArray[l1.length]? = some op := by simp
  have hq : (l1 ++ [op, oq]).toArray[l1.length + 1]? = some oq := by simp
  refine wp_region_any hm ?_
  have hsz : (l1 ++ [op, oq]).toArray.size = (l1.length + 1) + 1 := by simp
  rw [hsz] at hlx ⊢
  refine wpAny_of_A (p := l1.length) (q := l1.length + 1) (S := S) (T := T) (Q := fun g a' => ∀ w', S w' → T g w' → wpList P (l1 ++ [op, oq]).toArray Q [oq] a' w') hp hgp hT hal (fun g a' w' hq1 hS' hT' => ?_) (l1.length + 1) _ none a w.drew hS (fun g hg => by cases hg) ?_
  · have h1 := hq1 w' hS' hT'
    unfold wpOp
    simp only [hq]
    have hw : Region.wanted oq (yielded (l1 ++ [op, oq]).toArray a'.tmps) = true := by unfold Region.wanted; rw [hgq]
    rw [if_pos hw]
    unfold wpList at h1
    rw [if_pos hw] at h1
    exact h1
  · exact wpAnyA_lex hns hla hp hq rfl l1 0 _ a (fun j hj => by
      rw [Nat.zero_add, List.getElem?_toArray, List.getElem?_append_left hj]) (by omega) hlx (by
      exact wpSure_mono (fun a' h1 g w' => h1 g w') l1 a h)
theorem wp_region_new' {id : Nat} {Q : Exit → Act → World → Prop} {a : Act} {w : World} {l : List Oper} (n : Nat) (op oq : Oper) (hn : l.drop n = [op, oq]) (S : World → Prop) (T : Nat → World → Prop) (hm : P.follows .mixedOrders = true)
    (hB : (Region.lexB .any l.toArray && lastB .any l.toArray (n + 1)) = true) (hgp : op.guard = none) (hgq : oq.guard = none) (hS : S w.drew)
    (hT : ∀ g w w', T g w → Fr (fun _ => False) w w' → T g w')
    (hal : ∀ (a : Act) w, S w → ∃ w', (execOp a.eval op).run P w = .ok (.value (.pointer (some ⟨w.heap.size, 0, none⟩))) w' ∧ S w' ∧ T w.heap.size w')
    (h : wpSure P l.toArray S (fun a' => ∀ g w', S w' → T g w' → wpList P l.toArray Q [oq] (a'.put op.dst (.pointer (some ⟨g, 0, none⟩))) w') (l.take n) a) : (Code.region id l.toArray true).wp P Q a w := by
  have e : l = l.take n ++ [op, oq] := by rw [← hn, List.take_append_drop]
  have hlen : (l.take n).length = n := by
    rw [List.length_take]
    have := congrArg List.length hn
    rw [List.length_drop] at this
    simp at this; omega
  generalize l.take n = l1 at *
  subst e
  subst hlen
  exact wp_region_new S T hm hB hgp hgq hS hT hal h

/-! The steps -/
variable {Q : Act → Prop} {o : Oper} {rest : List Oper} {a : Act}
theorem atS (o : Oper) {rest : List Oper} {a : Act} {Q : Act → Prop} (h : wpSure P ops S Q (o :: rest) a) : wpSure P ops S Q (o :: rest) a := h
theorem wpSure_end (h : Q a) : wpSure P ops S Q [] a := h
theorem wpSure_value (v : Value) (hw : Region.wanted o (yielded ops a.tmps) = true) (hr : ∀ w, (execOp a.eval o).run P w = .ok (.value v) w) (h : wpSure P ops S Q rest (a.put o.dst v)) : wpSure P ops S Q (o :: rest) a :=
  ⟨v, fun _ => .inl ⟨hw, fun w hS => .inl ⟨w, hr w, hS⟩⟩, h⟩
theorem wpSure_read (v : Value) (hw : Region.wanted o (yielded ops a.tmps) = true) (hr : ∀ w, S w → (execOp a.eval o).run P w = .ok (.value v) w) (h : wpSure P ops S Q rest (a.put o.dst v)) : wpSure P ops S Q (o :: rest) a :=
  ⟨v, fun _ => .inl ⟨hw, fun w hS => .inl ⟨w, hr w hS.1, hS⟩⟩, h⟩
theorem wpSure_not (hw : Region.wanted o (yielded ops a.tmps) = false) (h : wpSure P ops S Q rest (a.put o.dst undef)) : wpSure P ops S Q (o :: rest) a :=
  ⟨undef, fun _ => .inr ⟨hw, rfl⟩, h⟩
/-- a call by its contract -/
theorem wpSure_call (v : Value) (f : FuncId) (args : Array Value) (hw : Region.wanted o (yielded ops a.tmps) = true) (hr : ∀ w, (execOp a.eval o).run P w = .ok (.enter f args) w)
    (hc : ∀ w, S w → Calls P f args w (fun e w'' => e = .returned v ∧ Below w.heap.size w w'')) (hS : ∀ w w', S w → Below w.heap.size w w' → S w') (h : wpSure P ops S Q rest (a.put o.dst v)) : wpSure P ops S Q (o :: rest) a :=
  ⟨v, fun _ => .inl ⟨hw, fun w hs => .inr (.inr ⟨f, args, w, hr w, (hc w hs.1).mono fun _ w'' hh => ⟨hh.1, hS w w'' hs.1 hh.2, hs.2.trans (Fr.of_below (fp := fun _ => False) hh.2) (fun _ h _ => h)⟩⟩)⟩, h⟩
end
end Go.Proofs.YtcoclaabainibaaDoor.A
