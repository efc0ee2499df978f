/-
  Plain mathematics: which texts are GUIDs' texts, and what the plain twin of Parse makes of a text.
-/
import Derived.Test.YtmmmjkmhlkkdkaaGuidM
namespace Go.Proofs.Ytmmmjkmhlkkdkaa

theorem prUp_posn (xs : List Int) : ∀ k, (prUp xs k).length = posn k
  | 0 => rfl
  | k + 1 => by
    have ih := prUp_posn xs k
    unfold prUp posn
    split <;> simp [ih]
theorem getD_left (a b : List Int) (i : Nat) (h : i < a.length) : (a ++ b).getD i 0 = a.getD i 0 := by
  rw [List.getD_eq_getElem?_getD, List.getElem?_append_left h, ← List.getD_eq_getElem?_getD]
theorem getD_right (a b : List Int) (i : Nat) : (a ++ b).getD (a.length + i) 0 = b.getD i 0 := by
  rw [List.getD_eq_getElem?_getD, List.getElem?_append_right (by omega), ← List.getD_eq_getElem?_getD]
  congr 1; omega
theorem prUp_prefix (xs : List Int) (k i : Nat) (hi : i < posn k) : ∀ j, k ≤ j → (prUp xs j).getD i 0 = (prUp xs k).getD i 0
  | 0, h => by obtain rfl : k = 0 := by omega
               rfl
  | j + 1, h => by
    by_cases e : k = j + 1
    · subst e; rfl
    · have ih := prUp_prefix xs k i hi j (by omega)
      have hm : posn k ≤ posn j := by
        have : ∀ a b, a ≤ b → posn a ≤ posn b := fun a b hab => by
          induction b with
          | zero => obtain rfl : a = 0 := by omega
                    exact Nat.le_refl _
          | succ b ihb =>
            by_cases e : a = b + 1
            · subst e; exact Nat.le_refl _
            · refine Nat.le_trans (ihb (by omega)) ?_
              show posn b ≤ (if isD b then posn b + 1 else posn b) + 2
              split <;> omega
        exact this k j (by omega)
      have hl := prUp_posn xs j
      have hs : prUp xs (j + 1) = (if isD j then prUp xs j ++ [45] else prUp xs j) ++ [dg (xs.getD j 0 / 16), dg (xs.getD j 0 % 16)] := rfl
      rw [hs]
      split
      · rw [getD_left _ _ _ (by rw [List.length_append]; omega), getD_left _ _ _ (by omega), ih]
      · rw [getD_left _ _ _ (by omega), ih]
theorem prL_pre (xs : List Int) (k i : Nat) (hk : k ≤ 16) (hi : i < posn k) : (prL xs).getD i 0 = (prUp xs k).getD i 0 := by
  have h16 : i < posn 16 := by
    rcases Nat.lt_or_ge i (posn 16) with h | h
    · exact h
    · exfalso
      have := posn_le k hk
      have e : posn 16 = 37 := by decide
      omega
  unfold prL
  rw [getD_left _ _ _ (by rw [prUp_posn]; exact h16)]
  exact prUp_prefix xs k i hi 16 hk
theorem prL_0 (g : List Int) : (prL g).getD 0 0 = 123 := (prL_pre g 0 0 (by omega) (by decide)).trans rfl
theorem prL_37 (g : List Int) : (prL g).getD 37 0 = 125 := by
  have h := getD_right (prUp g 16) [125] 0
  rw [prUp_posn, show posn 16 + 0 = 37 by decide] at h
  exact h
theorem prL_at (g : List Int) (k : Nat) (hk : k < 16) : (isD k = true → (prL g).getD (posn k) 0 = 45) ∧ (prL g).getD (pdig k) 0 = dg (g.getD k 0 / 16) ∧ (prL g).getD (pdig k + 1) 0 = dg (g.getD k 0 % 16) := by
  have hl := prUp_posn g k
  by_cases hd : isD k = true
  · have hp : posn (k + 1) = posn k + 1 + 2 := by show (if isD k then posn k + 1 else posn k) + 2 = _; rw [if_pos hd]
    have hq : pdig k = posn k + 1 := by unfold pdig; rw [if_pos hd]
    have hu : prUp g (k + 1) = (prUp g k ++ [45]) ++ [dg (g.getD k 0 / 16), dg (g.getD k 0 % 16)] := by show (if isD k then prUp g k ++ [45] else prUp g k) ++ _ = _; rw [if_pos hd]
    have hl2 : (prUp g k ++ [45]).length = posn k + 1 := by rw [List.length_append, hl]; rfl
    refine ⟨fun _ => ?_, ?_, ?_⟩
    · rw [prL_pre g (k + 1) _ (by omega) (by omega), hu, getD_left _ _ _ (by omega)]
      have := getD_right (prUp g k) [45] 0
      rw [hl] at this; exact this
    · rw [hq, prL_pre g (k + 1) _ (by omega) (by omega), hu]
      have := getD_right (prUp g k ++ [45]) [dg (g.getD k 0 / 16), dg (g.getD k 0 % 16)] 0
      rw [hl2] at this; exact this
    · rw [hq, prL_pre g (k + 1) _ (by omega) (by omega), hu]
      have := getD_right (prUp g k ++ [45]) [dg (g.getD k 0 / 16), dg (g.getD k 0 % 16)] 1
      rw [hl2] at this; exact this
  · have hp : posn (k + 1) = posn k + 2 := by show (if isD k then posn k + 1 else posn k) + 2 = _; rw [if_neg hd]
    have hq : pdig k = posn k := by unfold pdig; rw [if_neg hd]
    have hu : prUp g (k + 1) = prUp g k ++ [dg (g.getD k 0 / 16), dg (g.getD k 0 % 16)] := by show (if isD k then prUp g k ++ [45] else prUp g k) ++ _ = _; rw [if_neg hd]
    refine ⟨fun h => absurd h hd, ?_, ?_⟩
    · rw [hq, prL_pre g (k + 1) _ (by omega) (by omega), hu]
      have := getD_right (prUp g k) [dg (g.getD k 0 / 16), dg (g.getD k 0 % 16)] 0
      rw [hl] at this; exact this
    · rw [hq, prL_pre g (k + 1) _ (by omega) (by omega), hu]
      have := getD_right (prUp g k) [dg (g.getD k 0 / 16), dg (g.getD k 0 % 16)] 1
      rw [hl] at this; exact this
theorem places : ∀ i, i < 38 → i = 0 ∨ i = 37 ∨ ∃ k : Nat, k < 16 ∧ ((isD k = true ∧ i = posn k) ∨ i = pdig k ∨ i = pdig k + 1) := by decide
theorem low_getD (sl : List Int) (i : Nat) (h : i < sl.length) : (sl.map low).getD i 0 = low (sl.getD i 0) := by simp [h]

theorem getElem_getD (l : List Int) (i : Nat) (h : i < l.length) : l[i] = l.getD i 0 := by simp [h]
/-- A text that is a GUID's but for great letters is read as it, and no other is. -/
theorem pars_iff (sl g : List Int) : pars sl = some g ↔ IsG g ∧ sl.map low = prL g := by
  constructor
  · intro h
    unfold pars at h
    split at h
    · rename_i hf
      obtain ⟨⟨f1, f2, f3⟩, ha⟩ := hf
      simp only [Option.some.injEq] at h
      subst h
      refine ⟨gUp_isG sl 16, ?_⟩
      apply List.ext_getElem
      · rw [List.length_map, f1, prL_len]
      · intro i h1 h2
        have hi : i < 38 := by rw [prL_len] at h2; exact h2
        have e1 := (getElem_getD (sl.map low) i h1).trans (low_getD sl i (by omega))
        have e2 := getElem_getD (prL (gUp sl 16)) i h2
        rw [e1, e2]
        rcases places i hi with rfl | rfl | ⟨k, hk, hp⟩
        · rw [f2, prL_0, low_123.2 rfl]
        · rw [f3, prL_37, low_125.2 rfl]
        · obtain ⟨a1, a2, a3⟩ := prL_at (gUp sl 16) k hk
          obtain ⟨x, hx⟩ := Option.isSome_iff_exists.1 (ha k hk)
          obtain ⟨b1, b2, b3⟩ := (rnd_iff (rnd_bd hx)).1 hx
          have hg : (gUp sl 16).getD k 0 = x := by rw [gUp_get sl 16 k hk, if_pos hk, hx]; rfl
          rw [hg] at a2 a3
          rcases hp with ⟨hd, rfl⟩ | rfl | rfl
          · rw [a1 hd, b1 hd]
          · rw [a2, b2]
          · rw [a3, b3]
    · cases h
  · intro ⟨hg, he⟩
    have f1 : sl.length = 38 := by have := congrArg List.length he; rw [List.length_map, prL_len] at this; exact this
    have at' : ∀ i, i < 38 → low (sl.getD i 0) = (prL g).getD i 0 := fun i hi => by rw [← low_getD sl i (by omega), he]
    have f2 : sl.getD 0 0 = 123 := low_123.1 ((at' 0 (by omega)).trans (prL_0 g))
    have f3 : sl.getD 37 0 = 125 := low_125.1 ((at' 37 (by omega)).trans (prL_37 g))
    have hr : ∀ k, k < 16 → rnd sl k = some (g.getD k 0) := fun k hk => by
      obtain ⟨a1, a2, a3⟩ := prL_at g k hk
      have p1 := posn_le k (by omega)
      have p2 := pdig_le k hk
      refine (rnd_iff ⟨hg.lo k, hg.hi k⟩).2 ⟨fun hd => ?_, ?_, ?_⟩
      · rw [at' _ (by omega), a1 hd]
      · rw [at' _ (by omega), a2]
      · rw [at' _ (by omega), a3]
    unfold pars
    rw [if_pos ⟨⟨f1, f2, f3⟩, fun j hj => by rw [hr j hj]; rfl⟩]
    congr 1
    apply List.ext_getElem
    · rw [gUp_len, hg.len]
    · intro i h1 h2
      rw [gUp_len] at h1
      simp only [gUp, List.getElem_map, List.getElem_range]
      rw [if_pos h1, hr i h1]
      simp [h2]

/-- One byte of a text, as the plain twin takes it. -/
def refStep (st : List Int × Nat) (c : Int) : List Int × Nat :=
  match dgv c with
  | some v => (if st.2 < 32 then st.1.set (st.2 / 2) ((st.1.getD (st.2 / 2) 0 * 16 + v) % 256) else st.1, st.2 + 1)
  | none => st
def refFold (sl : List Int) : List Int × Nat := sl.foldl refStep (List.replicate 16 0, 0)
def refG (sl : List Int) : List Int := (refFold sl).1
theorem refFold_snoc (sl : List Int) (c : Int) : refFold (sl ++ [c]) = refStep (refFold sl) c := by simp [refFold]
theorem set_isG {g : List Int} (h : IsG g) (k : Nat) (x : Int) (hx : 0 ≤ x ∧ x ≤ 255) : IsG (g.set k x) := by
  have a : ∀ j, 0 ≤ (g.set k x).getD j 0 ∧ (g.set k x).getD j 0 ≤ 255 := fun j => by
    have h0 := h.lo j
    have h1 := h.hi j
    by_cases e : k = j
    · subst e
      by_cases hk : k < g.length
      · simp [hk]; omega
      · rw [List.set_eq_of_length_le (by omega)]; exact ⟨h0, h1⟩
    · have : (g.set k x).getD j 0 = g.getD j 0 := by simp [List.getD, List.getElem?_set_ne e]
      rw [this]; exact ⟨h0, h1⟩
  exact ⟨by rw [List.length_set]; exact h.len, fun j => (a j).1, fun j => (a j).2⟩
theorem zero_getD (j : Nat) : (List.replicate 16 (0 : Int)).getD j 0 = 0 := by
  rw [List.getD_eq_getElem?_getD, List.getElem?_replicate]
  split <;> rfl
theorem zero_isG : IsG (List.replicate 16 0) := ⟨rfl, fun j => by rw [zero_getD]; decide, fun j => by rw [zero_getD]; decide⟩
theorem refStep_isG {st : List Int × Nat} (h : IsG st.1) (c : Int) : IsG (refStep st c).1 := by
  unfold refStep
  split
  · simp only []
    split
    · exact set_isG h _ _ (by omega)
    · exact h
  · exact h
theorem foldl_isG : ∀ (sl : List Int) (st : List Int × Nat), IsG st.1 → IsG (sl.foldl refStep st).1
  | [], _, h => h
  | c :: sl, _, h => foldl_isG sl _ (refStep_isG h c)
theorem refG_isG (sl : List Int) : IsG (refG sl) := foldl_isG sl _ zero_isG
theorem dgv_low (c : Int) : dgv (low c) = dgv c := by
  unfold dgv low
  by_cases h : 65 ≤ c ∧ c ≤ 70
  · rw [if_pos h, if_neg (by omega), if_pos (by omega), if_neg (by omega), if_neg (by omega), if_pos h]; congr 1; omega
  · rw [if_neg h]
theorem refFold_low (sl : List Int) : refFold (sl.map low) = refFold sl := by
  unfold refFold
  rw [List.foldl_map]
  congr 1
  funext st c
  unfold refStep
  rw [dgv_low]
theorem refStep_dg (st : List Int × Nat) (v : Int) (h0 : 0 ≤ v) (h1 : v < 16) : refStep st (dg v) = (if st.2 < 32 then st.1.set (st.2 / 2) ((st.1.getD (st.2 / 2) 0 * 16 + v) % 256) else st.1, st.2 + 1) := by
  have : dgv (dg v) = some v := (dgv_iff ⟨h0, h1⟩).2 (low_dg h0 h1)
  unfold refStep
  rw [this]
/-- The first k bytes of g, noughts behind them. -/
def keepUp (g : List Int) (k : Nat) : List Int := (List.range 16).map fun j => if j < k then g.getD j 0 else 0
theorem keepUp_step (g : List Int) (k : Nat) (y : Int) : (((keepUp g k).set k y).set k (g.getD k 0)) = keepUp g (k + 1) := by
  apply List.ext_getElem
  · simp [keepUp]
  · intro i h1 h2
    simp only [List.getElem_set, keepUp, List.getElem_map, List.getElem_range]
    by_cases e : k = i
    · subst e; rw [if_pos rfl, if_pos (by omega)]
    · rw [if_neg e, if_neg e]
      by_cases h : i < k
      · rw [if_pos h, if_pos (by omega)]
      · rw [if_neg h, if_neg (by omega)]
theorem refFold_prUp {g : List Int} (hg : IsG g) : ∀ k, k ≤ 16 → refFold (prUp g k) = (keepUp g k, 2 * k)
  | 0, _ => by
    have : keepUp g 0 = List.replicate 16 0 := by
      apply List.ext_getElem
      · simp [keepUp]
      · intro i h1 h2; rw [List.getElem_replicate]; simp [keepUp]
    rw [this]; rfl
  | k + 1, hk => by
    have ih := refFold_prUp hg k (by omega)
    have h0 := hg.lo k
    have h1 := hg.hi k
    have hu : refFold (if isD k then prUp g k ++ [45] else prUp g k) = (keepUp g k, 2 * k) := by
      split
      · rw [refFold_snoc, ih]; rfl
      · exact ih
    have hl : (keepUp g k).length = 16 := by simp [keepUp]
    have hz : (keepUp g k).getD k 0 = 0 := by simp [keepUp, List.getD, show k < 16 by omega]
    unfold prUp
    rw [show ∀ a b : Int, (if isD k then prUp g k ++ [45] else prUp g k) ++ [a, b] = ((if isD k then prUp g k ++ [45] else prUp g k) ++ [a]) ++ [b] from fun a b => by simp, refFold_snoc, refFold_snoc, hu]
    have hA : refStep (keepUp g k, 2 * k) (dg (g.getD k 0 / 16)) = ((keepUp g k).set k ((0 * 16 + g.getD k 0 / 16) % 256), 2 * k + 1) := by
      rw [refStep_dg _ _ (by omega) (by omega), if_pos (show 2 * k < 32 by omega), show 2 * k / 2 = k by omega, hz]
    rw [hA, refStep_dg _ _ (by omega) (by omega), if_pos (show 2 * k + 1 < 32 by omega), show (2 * k + 1) / 2 = k by omega]
    have h2 : ((keepUp g k).set k ((0 * 16 + g.getD k 0 / 16) % 256)).getD k 0 = g.getD k 0 / 16 := by
      rw [List.getD_eq_getElem?_getD, List.getElem?_set_self (by omega), Option.getD_some]
      omega
    rw [h2, show (g.getD k 0 / 16 * 16 + g.getD k 0 % 16) % 256 = g.getD k 0 by omega, keepUp_step]
    exact Prod.ext rfl (show 2 * k + 1 + 1 = 2 * (k + 1) by omega)
theorem keepUp_all {g : List Int} (hg : IsG g) : keepUp g 16 = g := by
  apply List.ext_getElem
  · simp [keepUp, hg.len]
  · intro i h1 h2
    have : i < 16 := by simpa [keepUp] using h1
    simp [keepUp, this, h2]
theorem refG_prL {g : List Int} (hg : IsG g) : refG (prL g) = g := by
  unfold refG prL
  rw [refFold_snoc, refFold_prUp hg 16 (by omega), keepUp_all hg]
  rfl
/-- The two answers are one. -/
theorem pars_ref (sl : List Int) : pars sl = if sl.map low = prL (refG sl) then some (refG sl) else none := by
  split
  · rename_i h; exact (pars_iff sl _).2 ⟨refG_isG sl, h⟩
  · rename_i h
    cases hp : pars sl with
    | none => rfl
    | some g =>
      obtain ⟨hg, he⟩ := (pars_iff sl g).1 hp
      exfalso; apply h
      have : refG sl = g := by
        unfold refG
        rw [← refFold_low, he]
        exact refG_prL hg
      rw [this]; exact he
theorem map_low_prL {g : List Int} (hg : IsG g) : (prL g).map low = prL g := by
  have h : ∀ c ∈ prL g, low c = c := by
    have hU : ∀ k, ∀ c ∈ prUp g k, low c = c := fun k => by
      induction k with
      | zero => intro c hc; simp [prUp] at hc; subst hc; rfl
      | succ k ih =>
        intro c hc
        have h0 := hg.lo k
        have h1 := hg.hi k
        unfold prUp at hc
        simp only [List.mem_append, List.mem_cons, List.not_mem_nil, or_false] at hc
        rcases hc with hc | rfl | rfl
        · split at hc
          · rcases List.mem_append.1 hc with h | h
            · exact ih c h
            · simp at h; subst h; rfl
          · exact ih c hc
        · exact low_dg (by omega) (by omega)
        · exact low_dg (by omega) (by omega)
    intro c hc
    rcases List.mem_append.1 hc with h | h
    · exact hU 16 c h
    · simp at h; subst h; rfl
  exact (List.map_congr_left h).trans (List.map_id _)
theorem pars_prL {g : List Int} (hg : IsG g) : pars (prL g) = some g := (pars_iff _ _).2 ⟨hg, map_low_prL hg⟩
theorem prL_inj {a b : List Int} (ha : IsG a) (hb : IsG b) (h : prL a = prL b) : a = b := by
  have := pars_prL ha
  rw [h, pars_prL hb] at this
  exact (Option.some.inj this).symm
def g0 : List Int := List.replicate 16 0
theorem g0_at : u8s g0 = #[.int .u8 0, .int .u8 0, .int .u8 0, .int .u8 0, .int .u8 0, .int .u8 0, .int .u8 0, .int .u8 0, .int .u8 0, .int .u8 0, .int .u8 0, .int .u8 0, .int .u8 0, .int .u8 0, .int .u8 0, .int .u8 0] := rfl
theorem gUp_zero (sl : List Int) : gUp sl 0 = g0 := by
  apply List.ext_getElem
  · simp [gUp, g0]
  · intro i h1 h2
    have : g0[i] = 0 := List.getElem_replicate _
    rw [this]; simp [gUp]

theorem pars_bad {sl : List Int} (h : ¬ Framed sl) : pars sl = none := by unfold pars; rw [if_neg (fun c => h c.1)]
/-- The plain twin's answer is the same. -/
theorem pars_yes {sl : List Int} (h : sl.map low = prL (refG sl)) : pars sl = some (refG sl) := by rw [pars_ref, if_pos h]
theorem pars_no {sl : List Int} (h : ¬ sl.map low = prL (refG sl)) : pars sl = none := by rw [pars_ref, if_neg h]
theorem refFold_le (sl : List Int) : (refFold sl).2 ≤ sl.length := by
  have h : ∀ (l : List Int) (st : List Int × Nat), (l.foldl refStep st).2 ≤ st.2 + l.length := fun l => by
    induction l with
    | nil => intro st; simp
    | cons c l ih =>
      intro st
      have h2 : (refStep st c).2 ≤ st.2 + 1 := by unfold refStep; split <;> simp
      have := ih (refStep st c)
      simp only [List.foldl_cons, List.length_cons]
      omega
  simpa [refFold] using h sl (List.replicate 16 0, 0)
theorem take_step (sl : List Int) (i : Nat) (h : i < sl.length) : refFold (sl.take (i + 1)) = refStep (refFold (sl.take i)) (sl.getD i 0) := by
  rw [List.take_succ_eq_append_getElem h, refFold_snoc]
  congr 1
  simp [h]
theorem low_all {sl ys : List Int} (h1 : sl.length = ys.length) (h2 : ∀ j, j < sl.length → low (sl.getD j 0) = ys.getD j 0) : sl.map low = ys := by
  apply List.ext_getElem
  · rw [List.length_map, h1]
  · intro i a b
    rw [getElem_getD _ i a, getElem_getD _ i b, low_getD sl i (by simpa using a)]
    exact h2 i (by simpa using a)
theorem low_bad {sl ys : List Int} {j : Nat} (hj : j < sl.length) (h : ¬ low (sl.getD j 0) = ys.getD j 0) : ¬ sl.map low = ys := fun e => h (by rw [← e, low_getD sl j hj])
end Go.Proofs.Ytmmmjkmhlkkdkaa
