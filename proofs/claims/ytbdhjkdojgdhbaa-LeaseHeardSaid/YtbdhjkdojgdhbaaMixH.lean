/-
  A region that draws its order, as D.wp_region_mix, with a gate: one of its calls (kind 2) behind which S holds; all loads of kind 1 wait for it, and what is of kind 3 ahead of it changes S freely.
-/
import Derived.Test.YtbdhjkdojgdhbaaMixD
namespace Go.Proofs.Ytbdhjkdojgdhbaa.H
open Go Go.Proofs.Ytbdhjkdojgdhbaa Go.Proofs.Ytbdhjkdojgdhbaa.C Go.Proofs.Ytbdhjkdojgdhbaa.D

section
variable {P : Program} {ops : Array Oper} {md : Region.Mode} {S : World → Prop} {ks : List Nat} {g : Nat}

/-- The gate is of kind 2, what reads waits for it, and nothing of kind 3 behind it stands ahead of what reads. -/
def gateB (md : Region.Mode) (ops : Array Oper) (ks : List Nat) (g : Nat) : Bool :=
  decide (ks.getD g 0 = 2) && decide (g < ops.size) && ((List.range ops.size).all fun j => !decide (ks.getD j 0 = 1) || D.waitsN md ops 8 j g) &&
  ((List.range ops.size).all fun i => (List.range ops.size).all fun j => !(decide (i < j) && decide (2 < ks.getD i 0) && decide (ks.getD j 0 = 1)) || decide (i < g))
theorem gate_kind (h : gateB md ops ks g = true) : ks.getD g 0 = 2 ∧ g < ops.size := by
  simp only [gateB, Bool.and_eq_true, decide_eq_true_eq] at h
  exact h.1.1
theorem gate_wait (h : gateB md ops ks g = true) {j : Nat} (hj : j < ops.size) (hk : ks.getD j 0 = 1) : D.waitsN md ops 8 j g = true := by
  simp only [gateB, Bool.and_eq_true, List.all_eq_true, List.mem_range] at h
  have := h.1.2 j hj
  rw [decide_eq_true hk] at this
  simpa using this
theorem gate_late (h : gateB md ops ks g = true) {i j : Nat} (hi : i < ops.size) (hj : j < ops.size) (hij : i < j) (hk : 2 < ks.getD i 0) (hk1 : ks.getD j 0 = 1) : i < g := by
  simp only [gateB, Bool.and_eq_true, List.all_eq_true, List.mem_range] at h
  have := h.2 i hi j hj
  rw [decide_eq_true hij, decide_eq_true hk, decide_eq_true hk1] at this
  simpa using this
/-- What a gate that is listed waits for is listed. -/
theorem gate_listed {listed : Array Bool} (hcl : D.Closed md ops listed) (hk : D.kindsT md ops ks = true) (h : gateB md ops ks g = true) (hg : listed.getD g false = true) {i : Nat} (hi : i < g) (h3 : 2 < ks.getD i 0) : listed.getD i false = true := by
  obtain ⟨h2, hl⟩ := gate_kind h
  obtain ⟨og, hog⟩ : ∃ og, ops[g]? = some og := ⟨_, Array.getElem?_eq_getElem hl⟩
  exact D.waitsN_listed hcl 8 g og hog (hcl g og hog hg) (D.kindsT_waits (i := i) (j := g) hk hl hi (.inl ⟨by omega, by omega⟩))

theorem wpAny_of_mix {Q : Act → World → Prop} {Q' : Exit → Act → World → Prop} (hk : kindsT md ops ks = true) (hl : gateB md ops ks g = true) (hQ : ∀ a w, Q a w → Q' .normal a w) : ∀ (fuel : Nat) (listed : Array Bool) (a : Act) (w : World),
    Closed md ops listed → (listed.getD g false = true → Loads ops ks listed → S w) → C.wpAnyM P md ops S ks Q fuel listed a w → wpAny P md ops Q' fuel listed a w
  | 0, _, _, _, _, _, h => ⟨h.1, hQ _ _ h.2⟩
  | fuel + 1, listed, a, w, hcl, hS, h => ⟨fun h0 => hQ _ _ (h.1 h0), fun i hi => by
      have h2 := h.2 i hi
      obtain ⟨hun, o, ho, hall⟩ := mem_ready.1 hi
      have hil : i < ops.size := (Array.getElem?_eq_some_iff.1 ho).1
      have hkg := (gate_kind hl).1
      unfold C.mixOp at h2
      unfold wpOp
      simp only [ho] at h2 ⊢
      by_cases hr : ks.getD i 0 < 2
      · rw [if_pos hr] at h2
        obtain ⟨v, ⟨hw, hy⟩ | ⟨hw, rfl⟩, hK⟩ := h2
        · rw [if_pos hw]
          refine .inl ?_
          unfold Oper.wp
          rcases hy w (fun e => hS (waitsN_listed hcl 8 i o ho hall (gate_wait hl hil e)) ⟨i, hil, e, hun⟩) with hv | ⟨hv, rfl⟩
          · rw [hv]; exact wpAny_of_mix hk hl hQ fuel _ _ _ (hcl.set hi) (fun hg hm => hS (by rw [getD_set_ne false (fun e : i = g => by rw [e] at hr; omega)] at hg; exact hg) hm.less) hK
          · rw [hv]; exact wpAny_of_mix hk hl hQ fuel _ _ _ (hcl.set hi) (fun hg hm => hS (by rw [getD_set_ne false (fun e : i = g => by rw [e] at hr; omega)] at hg; exact hg) hm.less) hK
        · rw [if_neg (by rw [hw]; decide)]
          exact wpAny_of_mix hk hl hQ fuel _ _ _ (hcl.set hi) (fun hg hm => hS (by rw [getD_set_ne false (fun e : i = g => by rw [e] at hr; omega)] at hg; exact hg) hm.less) hK
      · rw [if_neg hr] at h2
        obtain ⟨hw, h2⟩ := h2
        have hS' : ∀ w', (ks.getD i 0 = 2 → S w') → (listed.setIfInBounds i true).getD g false = true → Loads ops ks (listed.setIfInBounds i true) → S w' := fun w' hSw hg hm => by
          by_cases e2 : ks.getD i 0 = 2
          · exact hSw e2
          · have hig : i ≠ g := fun e => by rw [e] at e2; exact e2 hkg
            rw [getD_set_ne false hig] at hg
            obtain ⟨j, h1, h2, h3⟩ := hm
            have hji : i ≠ j := fun e => by subst e; omega
            have hun2 : listed.getD j true = false := by rw [getD_set_ne true hji] at h3; exact h3
            rcases Nat.lt_or_ge i j with hlt | hge
            · exact (listed_not (gate_listed hcl hk hl hg (gate_late hl hil h1 hlt (by omega) h2) (by omega)) hun).elim
            · exact (listed_not (waitsN_listed hcl 8 i o ho hall (kindsT_waits (i := j) (j := i) hk hil (by omega) (.inr ⟨h2, by omega⟩))) hun2).elim
        rw [if_pos hw]
        refine .inl ?_
        unfold Oper.wp
        rcases h2 with ⟨v, w', hv, hSw, hK⟩ | ⟨w', hv, hSw, hK⟩ | ⟨f, args, w1, hv, hc⟩
        · rw [hv]; exact wpAny_of_mix hk hl hQ fuel _ _ _ (hcl.set hi) (hS' _ hSw) hK
        · rw [hv]; exact wpAny_of_mix hk hl hQ fuel _ _ _ (hcl.set hi) (hS' _ hSw) hK
        · rw [hv]
          exact hc.mono fun e w'' ⟨v, he, hSw, hK⟩ => by subst he; exact wpAny_of_mix hk hl hQ fuel _ _ _ (hcl.set hi) (hS' _ hSw) hK⟩

/-- An operation that is next in the text may come first. -/
theorem wpAnyM_first {Q : Act → World → Prop} {i : Nat} {oi : Oper} (hi : ops[i]? = some oi) (hk : kindsT md ops ks = true) (hl : gateB md ops ks g = true) (hsel : ∀ (j : Nat) (o : Oper) cs b, ops[j]? = some o → o.op ≠ .select cs b) :
    ∀ (fuel : Nat) (listed : Array Bool) (a : Act) (w : World),
      (∀ j oj, ops[j]? = some oj → j ≠ i → listed.getD j true = false → (∀ e ∈ oj.after, Region.binds md e = true → e.on ≠ i) → oi.apart ops oj = true) →
      (∀ j, j < i → listed.getD j true = true) → Closed md ops listed →
      i ∈ Region.ready md ops listed → C.mixOp P ops S ks i (fun a' w' => C.wpAnyM P md ops S ks Q fuel (listed.setIfInBounds i true) a' w') a w →
      C.wpAnyM P md ops S ks Q (fuel + 1) listed a w := by
  intro fuel
  induction fuel with
  | zero =>
    intro listed a w _ _ _ hr H
    refine ⟨fun h => (by rw [h] at hr; cases hr), fun j hj => ?_⟩
    by_cases hji : j = i
    · subst hji; exact H
    · have h0 : ∀ a w, C.wpAnyM P md ops S ks Q 0 (listed.setIfInBounds i true) a w → False := fun a w h => by
        have := ready_mono hj hji
        rw [h.1] at this
        cases this
      unfold C.mixOp at H
      simp only [hi] at H
      split at H
      · obtain ⟨v, _, hK⟩ := H; exact (h0 _ _ hK).elim
      · obtain ⟨v, w', _, hK⟩ := H.some; exact (h0 _ _ hK).elim
  | succ fuel ih =>
    intro listed a w hfree hlow hcl hr H
    refine ⟨fun h => (by rw [h] at hr; cases hr), fun j hj => ?_⟩
    by_cases hji : j = i
    · subst hji; exact H
    · obtain ⟨hjun, oj, hoj, hall⟩ := mem_ready.1 hj
      have hnot := mix_waits_not hr hj hoj
      have hap := hfree j oj hoj hji hjun hnot
      obtain ⟨p1, p2, p3⟩ := Oper.apart_spec hap
      have hil : i < ops.size := (Array.getElem?_eq_some_iff.1 hi).1
      have hjl : j < ops.size := (Array.getElem?_eq_some_iff.1 hoj).1
      have hij : i < j := by
        rcases Nat.lt_or_ge j i with h' | h'
        · rw [hlow j h'] at hjun; cases hjun
        · omega
      have hfree' : ∀ k ok, ops[k]? = some ok → k ≠ i → (listed.setIfInBounds j true).getD k true = false →
          (∀ e ∈ ok.after, Region.binds md e = true → e.on ≠ i) → oi.apart ops ok = true := fun k ok hk hki hun hno => by
        refine hfree k ok hk hki ?_ hno
        by_cases hjk : j = k
        · subst hjk; exact hjun
        · rw [getD_set_ne true hjk] at hun; exact hun
      have hlow' : ∀ k, k < i → (listed.setIfInBounds j true).getD k true = true := fun k hk => by
        rw [getD_set_ne true (by omega)]; exact hlow k hk
      have hr' := ready_mono hr (Ne.symm hji)
      have ri : ∀ {k v}, ReadsTo P ops S k oi v a → ∀ u, ReadsTo P ops S k oi v (a.put oj.dst u) := fun h u =>
        h.of_same (execOp_put oi (fun cs b => hsel i oi cs b hi) a oj.dst u p3) (wanted_put oi a oj.dst u p3)
      have wi : ∀ {w K}, WritesC P ops oi a w K → ∀ u, WritesC P ops oi (a.put oj.dst u) w K := fun h u =>
        h.of_same (execOp_put oi (fun cs b => hsel i oi cs b hi) a oj.dst u p3) (wanted_put oi a oj.dst u p3)
      have rj : ∀ {k u}, ∀ v, ReadsTo P ops S k oj u (a.put oi.dst v) → ReadsTo P ops S k oj u a := fun v h =>
        h.of_same (execOp_put oj (fun cs b => hsel j oj cs b hoj) a oi.dst v p1).symm (wanted_put oj a oi.dst v p1).symm
      have wj : ∀ {w K}, ∀ v, WritesC P ops oj (a.put oi.dst v) w K → WritesC P ops oj a w K := fun v h =>
        h.of_same (execOp_put oj (fun cs b => hsel j oj cs b hoj) a oi.dst v p1).symm (wanted_put oj a oi.dst v p1).symm
      have go : ∀ u w', C.mixOp P ops S ks i (fun a' w' => C.wpAnyM P md ops S ks Q fuel ((listed.setIfInBounds j true).setIfInBounds i true) a' w') (a.put oj.dst u) w' →
          C.wpAnyM P md ops S ks Q (fuel + 1) (listed.setIfInBounds j true) (a.put oj.dst u) w' := fun u w' h => ih _ _ _ hfree' hlow' (hcl.set hj) hr' h
      unfold C.mixOp at H
      simp only [hi] at H
      by_cases hri : ks.getD i 0 < 2
      · rw [if_pos hri] at H
        obtain ⟨v, hy, hK⟩ := H
        have h1 := hK.2 j (ready_mono hj hji)
        unfold C.mixOp at h1 ⊢
        simp only [hoj] at h1 ⊢
        by_cases hrj : ks.getD j 0 < 2
        · rw [if_pos hrj] at h1 ⊢
          obtain ⟨u, hu, hK2⟩ := h1
          refine ⟨u, rj v hu, go u w ?_⟩
          unfold C.mixOp
          simp only [hi, if_pos hri]
          refine ⟨v, ri hy u, ?_⟩
          rw [← Act.put_comm a v u p2, Array.setIfInBounds_comm _ _ hji]
          exact hK2
        · rw [if_neg hrj] at h1 ⊢
          refine (wj v h1).mono fun u w' ⟨hS, hK2⟩ => ⟨hS, go u w' ?_⟩
          unfold C.mixOp
          simp only [hi, if_pos hri]
          refine ⟨v, ri hy u, ?_⟩
          rw [← Act.put_comm a v u p2, Array.setIfInBounds_comm _ _ hji]
          exact hK2
      · rw [if_neg hri] at H
        have hrj : ks.getD j 0 < 2 := by
          rcases Nat.lt_or_ge (ks.getD j 0) 2 with h' | h'
          · exact h'
          · exact (listed_not (waitsN_listed hcl 8 j oj hoj hall (kindsT_waits (i := i) (j := j) hk hjl hij (.inl ⟨by omega, h'⟩))) (mem_ready.1 hr).1).elim
        have step : ∀ v w', C.wpAnyM P md ops S ks Q (fuel + 1) (listed.setIfInBounds i true) (a.put oi.dst v) w' → ∃ u, ReadsTo P ops S (ks.getD j 0) oj u a ∧
            C.wpAnyM P md ops S ks Q fuel ((listed.setIfInBounds i true).setIfInBounds j true) ((a.put oi.dst v).put oj.dst u) w' := fun v w' hK => by
          have h1 := hK.2 j (ready_mono hj hji)
          unfold C.mixOp at h1
          simp only [hoj] at h1
          rw [if_pos hrj] at h1
          obtain ⟨u, hu, hK2⟩ := h1
          exact ⟨u, rj v hu, hK2⟩
        have hSj : ∀ w', (ks.getD i 0 = 2 → S w') → ks.getD j 0 = 1 → S w' := fun w' hS e => by
          by_cases e2 : ks.getD i 0 = 2
          · exact hS e2
          · exact (listed_not (gate_listed hcl hk hl (waitsN_listed hcl 8 j oj hoj hall (gate_wait hl hjl e)) (gate_late hl hil hjl hij (by omega) e) (by omega)) (mem_ready.1 hr).1).elim
        obtain ⟨v0, w0, hS0, hK0⟩ := H.some
        obtain ⟨u, hu, _⟩ := step v0 w0 hK0
        unfold C.mixOp
        simp only [hoj]
        rw [if_pos hrj]
        refine ⟨u, hu, go u w ?_⟩
        unfold C.mixOp
        simp only [hi, if_neg hri]
        refine (wi H u).mono fun v w' ⟨hS, hK⟩ => ⟨hS, ?_⟩
        obtain ⟨u', hu', hK2⟩ := step v w' hK
        obtain rfl := reads_one (w := w') hu hu' (hSj w' hS)
        rw [← Act.put_comm a v u p2, Array.setIfInBounds_comm _ _ hji]
        exact hK2
theorem wpAnyM_lex {Q : Act → World → Prop} (hs : Region.noSelect ops = true) (hk : kindsT md ops ks = true) (hla : gateB md ops ks g = true) : ∀ (l : List Oper) (k : Nat) (listed : Array Bool) (a : Act) (w : World), (∀ j, l[j]? = ops[k + j]?) → (∀ j, j < k → listed.getD j true = true) → Closed md ops listed →
    Region.lexFrom md ops l.length k listed = true → C.wpMix P ops S ks Q k l a w → C.wpAnyM P md ops S ks Q l.length listed a w
  | [], _, _, _, _, _, _, _, hB, h => ⟨by simpa [Region.lexFrom] using hB, h⟩
  | o :: l, k, listed, a, w, hl, hlow, hcl, hB, h => by
    have h0 : ops[k]? = some o := by simpa using (hl 0).symm
    simp only [List.length_cons, Region.lexFrom, Bool.and_eq_true] at hB
    obtain ⟨⟨hr, hf⟩, hB'⟩ := hB
    have hlow' : ∀ j, j < k + 1 → (listed.setIfInBounds k true).getD j true = true := fun j hj => by
      by_cases e : k = j
      · subst e
        rcases Nat.lt_or_ge k listed.size with h' | h' <;> simp [h']
      · rw [getD_set_ne true e]; exact hlow j (by omega)
    have next : ∀ a w, C.wpMix P ops S ks Q (k + 1) l a w → C.wpAnyM P md ops S ks Q l.length (listed.setIfInBounds k true) a w := fun a w h =>
      wpAnyM_lex hs hk hla l (k + 1) _ a w (fun j => by have := hl (j + 1); simpa [Nat.add_assoc, Nat.add_comm 1 j] using this) hlow' (hcl.set (by simpa using hr)) hB' h
    refine wpAnyM_first h0 hk hla (Region.noSelect_spec hs) l.length listed a w (Region.free_spec h0 hf) hlow hcl (by simpa using hr) ?_
    unfold C.wpMix at h
    unfold C.mixOp
    simp only [h0]
    split at h
    · rename_i hlt
      rw [if_pos hlt]
      obtain ⟨v, hy, hK⟩ := h
      exact ⟨v, hy, next _ _ hK⟩
    · rename_i hlt
      rw [if_neg hlt]
      exact h.mono fun v w' ⟨hS, hK⟩ => ⟨hS, next _ _ hK⟩

/-- THE LAW. -/
theorem wp_region_mix {id : Nat} {Q : Exit → Act → World → Prop} {a : Act} {w : World} {l : List Oper} (ks : List Nat) (g : Nat) (S : World → Prop) (hm : P.follows .mixedOrders = true)
    (hB : (Region.lexB .any l.toArray && kindsT .any l.toArray ks && gateB .any l.toArray ks g) = true)
    (h : C.wpMix P l.toArray S ks (Q .normal) 0 l a w.drew) : (Code.region id l.toArray true).wp P Q a w := by
  simp only [Region.lexB, Bool.and_eq_true] at hB
  have hc0 : Closed .any l.toArray (Array.replicate l.toArray.size false) := fun m om _ hl => by
    exfalso
    rcases Nat.lt_or_ge m l.length with h' | h' <;> simp [h'] at hl
  refine wp_region_any hm (wpAny_of_mix (Q := Q .normal) (S := S) (ks := ks) hB.1.2 hB.2 (fun a' w' h1 => h1) _ _ _ _ hc0 (fun hg => by exfalso; rcases Nat.lt_or_ge g l.length with h' | h' <;> simp [h'] at hg) ?_)
  have := wpAnyM_lex (P := P) (S := S) (ks := ks) (md := .any) hB.1.1.1 hB.1.2 hB.2 l 0 (Array.replicate l.toArray.size false) a w.drew (by simp) (by omega) hc0 (by simpa using hB.1.1.2) h
  simpa using this

end
end Go.Proofs.Ytbdhjkdojgdhbaa.H
