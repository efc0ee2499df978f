/-
  Rings plainly: how they are laid, who comes to whom, and that all of them but the one held from outside is garbage. It speaks of no program.
-/
import Derived.Test.YtjmhlmohennknabCyLf
namespace Go.Proofs.Ytjmhlmohennknab
open Go

section
variable (nz : Nat → Nat) (K : Nat)
/-- Where a ring begins. -/
def frm : Nat → Nat
  | 0 => 0
  | r + 1 => frm r + nz r
/-- What a node of a ring is counted. -/
def rgC (r k : Nat) : Int := if r = K ∧ k = nz r / 2 then 2 else 1
def csL : Nat → List Int
  | 0 => []
  | r + 1 => csL r ++ fL (nz r) (rgC nz K r)
def rgE (r k : Nat) : Nat := frm nz r + (k + 1) % nz r
def esL : Nat → List Nat
  | 0 => []
  | r + 1 => esL r ++ fL (nz r) (rgE nz r)
def waL : Nat → List Nat
  | 0 => []
  | r + 1 => waL r ++ if r = K then [] else fL (nz r) (fun k => frm nz r + k)
def suL : Nat → List Nat
  | 0 => []
  | r + 1 => suL r ++ [frm nz r + nz r - 1]
end
section
variable {nz : Nat → Nat} {K : Nat}
theorem csL_len (r : Nat) : (csL nz K r).length = frm nz r := by
  induction r with
  | zero => rfl
  | succ r ih => unfold csL frm; rw [List.length_append, ih, fL_len]
theorem esL_len (r : Nat) : (esL nz r).length = frm nz r := by
  induction r with
  | zero => rfl
  | succ r ih => unfold esL frm; rw [List.length_append, ih, fL_len]
theorem frm_mono {i j : Nat} (h : i ≤ j) : frm nz i ≤ frm nz j := by
  induction j with
  | zero => rw [Nat.le_zero.1 h]; exact Nat.le_refl _
  | succ j ih =>
    by_cases hij : i = j + 1
    · rw [hij]; exact Nat.le_refl _
    · have := ih (by omega)
      show frm nz i ≤ frm nz j + nz j
      omega
theorem frm_lt {i R k : Nat} (hi : i < R) (hk : k < nz i) : frm nz i + k < frm nz R := by
  have h1 : frm nz (i + 1) ≤ frm nz R := frm_mono (by omega)
  have h2 : frm nz (i + 1) = frm nz i + nz i := rfl
  omega
theorem frm_inj {i j k l : Nat} (hk : k < nz i) (hl : l < nz j) (h : frm nz i + k = frm nz j + l) : i = j ∧ k = l := by
  have hij : i = j := by
    by_cases h1 : i < j
    · have := frm_lt h1 hk; omega
    · by_cases h2 : j < i
      · have := frm_lt h2 hl; omega
      · omega
  subst hij
  exact ⟨rfl, by omega⟩
theorem frm_ex {R x : Nat} (h : x < frm nz R) : ∃ i k, i < R ∧ k < nz i ∧ x = frm nz i + k := by
  induction R with
  | zero => exact absurd h (Nat.not_lt_zero _)
  | succ R ih =>
    have h1 : frm nz (R + 1) = frm nz R + nz R := rfl
    by_cases hx : x < frm nz R
    · obtain ⟨i, k, h2, h3, h4⟩ := ih hx
      exact ⟨i, k, by omega, h3, h4⟩
    · exact ⟨R, x - frm nz R, by omega, by omega, by omega⟩
theorem app_at {α : Type} {l l' : List α} {n k : Nat} (hl : l.length = n) : (l ++ l')[n + k]? = l'[k]? := by
  rw [List.getElem?_append_right (by omega)]
  congr 1
  omega
theorem csL_at {R i k : Nat} (hi : i < R) (hk : k < nz i) : (csL nz K R)[frm nz i + k]? = some (rgC nz K i k) := by
  induction R with
  | zero => omega
  | succ R ih =>
    unfold csL
    by_cases h : i = R
    · subst h
      rw [app_at (csL_len i), fL_at hk]
    · rw [List.getElem?_append_left (by rw [csL_len]; exact frm_lt (by omega) hk)]
      exact ih (by omega)
theorem esL_at {R i k : Nat} (hi : i < R) (hk : k < nz i) : (esL nz R)[frm nz i + k]? = some (rgE nz i k) := by
  induction R with
  | zero => omega
  | succ R ih =>
    unfold esL
    by_cases h : i = R
    · subst h
      rw [app_at (esL_len i), fL_at hk]
    · rw [List.getElem?_append_left (by rw [esL_len]; exact frm_lt (by omega) hk)]
      exact ih (by omega)
theorem suL_mem {R i : Nat} (hi : i < R) : frm nz i + nz i - 1 ∈ suL nz R := by
  induction R with
  | zero => omega
  | succ R ih =>
    unfold suL
    rw [List.mem_append]
    by_cases h : i = R
    · subst h; exact .inr (by simp)
    · exact .inl (ih (by omega))
theorem suL_lt (hz : ∀ i, 1 ≤ nz i) {R : Nat} : ∀ x ∈ suL nz R, x < frm nz R := by
  induction R with
  | zero => intro x hx; cases hx
  | succ R ih =>
    intro x hx
    have h1 : frm nz (R + 1) = frm nz R + nz R := rfl
    have := hz R
    unfold suL at hx
    rcases List.mem_append.1 hx with hx | hx
    · have := ih x hx; omega
    · simp at hx; omega
theorem rgE_lt (hz : ∀ i, 1 ≤ nz i) {R i k : Nat} (hi : i < R) : rgE nz i k < frm nz R := frm_lt hi (Nat.mod_lt _ (hz i))
theorem esL_lt (hz : ∀ i, 1 ≤ nz i) {R : Nat} : ∀ x ∈ esL nz R, x < frm nz R := fun x hx => by
  obtain ⟨j, hj⟩ := List.mem_iff_getElem?.1 hx
  have hjl := (List.getElem?_eq_some_iff.1 hj).1
  rw [esL_len] at hjl
  obtain ⟨i, k, hi, hk, rfl⟩ := frm_ex hjl
  rw [esL_at hi hk] at hj
  cases hj
  exact rgE_lt hz hi
theorem waL_filter (R : Nat) : waL nz K R = (List.range (frm nz R)).filter fun x => !decide (frm nz K ≤ x ∧ x < frm nz (K + 1)) := by
  induction R with
  | zero => rfl
  | succ R ih =>
    have h1 : frm nz (R + 1) = frm nz R + nz R := rfl
    unfold waL
    rw [h1, List.range_add, List.filter_append, ← ih]
    congr 1
    have h2 : (List.range (nz R)).map (frm nz R + ·) = fL (nz R) (fun k => frm nz R + k) := rfl
    rw [h2]
    by_cases hR : R = K
    · rw [if_pos hR]
      symm
      rw [List.filter_eq_nil_iff]
      intro x hx
      obtain ⟨k, hk, rfl⟩ := mem_fL hx
      subst hR
      simp only [h1]
      simp
      omega
    · rw [if_neg hR]
      symm
      rw [List.filter_eq_self]
      intro x hx
      obtain ⟨k, hk, rfl⟩ := mem_fL hx
      have : ¬ (frm nz K ≤ frm nz R + k ∧ frm nz R + k < frm nz (K + 1)) := fun ⟨a, b⟩ => by
        have h4 : frm nz (K + 1) = frm nz K + nz K := rfl
        have h5 : frm nz R + k = frm nz K + (frm nz R + k - frm nz K) := by omega
        exact hR (frm_inj hk (by omega) h5).1
      simp only [decide_eq_false this]
      rfl
end
/-- One alone of the set has an edge there, and one only. -/
theorem into_one {e : Nat → List Nat} {P : Nat → Prop} {n x y : Nat} (hy : y < n) (hp : P y) (h1 : (e y).count x = 1) (h0 : ∀ z, z < n → z ≠ y → (e z).count x = 0) : into e P n x = 1 := by
  have key : ∀ m, m ≤ n → into e P m x = if y < m then 1 else 0 := by
    intro m
    induction m with
    | zero => intro _; rw [if_neg (by omega)]; rfl
    | succ m ih =>
      intro hm
      unfold into
      rw [ih (by omega)]
      by_cases hym : y = m
      · subst hym
        rw [if_neg (by omega), if_pos hp, h1, if_pos (by omega)]
      · have h2 := h0 m (by omega) (fun e => hym e.symm)
        rw [h2, ite_self]
        by_cases hlt : y < m
        · rw [if_pos hlt, if_pos (by omega)]
        · rw [if_neg hlt, if_neg (by omega)]
  rw [key n (Nat.le_refl _), if_pos hy]
/-- The rings' graph. -/
def rgG (nz : Nat → Nat) (K R : Nat) : Gr := grS (csL nz K R) ((esL nz R).map fun t : Nat => [(t : Int)]) ((suL nz R).map Int.ofNat)
section
variable {nz : Nat → Nat} {K R : Nat}
theorem rgG_n : (rgG nz K R).n = frm nz R := csL_len R
theorem rgG_e (hz : ∀ i, 1 ≤ nz i) {i k : Nat} (hi : i < R) (hk : k < nz i) : (rgG nz K R).e (frm nz i + k) = [rgE nz i k] := by
  show wi (csL nz K R).length (((esL nz R).map fun t : Nat => [(t : Int)]).getD (frm nz i + k) []) = _
  rw [csL_len, List.getD_eq_getElem?_getD, List.getElem?_map, esL_at hi hk]
  exact wi_nat1 (rgE_lt hz hi)
where
  wi_nat1 {n t : Nat} (h : t < n) : wi n [(t : Int)] = [t] := by
    unfold wi
    rw [List.filter_cons_of_pos (by simp; omega)]
    simp
theorem rgG_c {i k : Nat} (hi : i < R) (hk : k < nz i) : (rgG nz K R).c (frm nz i + k) = rgC nz K i k := by
  show (csL nz K R).getD (frm nz i + k) 0 = _
  rw [List.getD_eq_getElem?_getD, csL_at hi hk]
  rfl
theorem rgG_s (hz : ∀ i, 1 ≤ nz i) {x : Nat} : (rgG nz K R).s x ↔ x ∈ suL nz R := by
  show x ∈ wi (csL nz K R).length ((suL nz R).map Int.ofNat) ↔ _
  have : wi (csL nz K R).length ((suL nz R).map Int.ofNat) = suL nz R := by
    rw [csL_len]
    unfold wi
    rw [List.filter_eq_self.2 (fun x hx => by
      obtain ⟨i, h1, rfl⟩ := List.mem_map.1 hx
      have := suL_lt hz i h1
      simp
      omega), List.map_map]
    exact (List.map_congr_left (fun i _ => Int.toNat_natCast i)).trans (List.map_id _)
  rw [this]
/-- Round and round. -/
theorem rg_round (hz : ∀ i, 1 ≤ nz i) {S : Nat → Prop} {i a : Nat} (hi : i < R) (ha : a < nz i) (h : Rch (rgG nz K R).e S (frm nz i + a)) : ∀ d, Rch (rgG nz K R).e S (frm nz i + (a + d) % nz i)
  | 0 => by rw [Nat.add_zero, Nat.mod_eq_of_lt ha]; exact h
  | d + 1 => by
    have h1 := rg_round hz hi ha h d
    have h2 := rgG_e (K := K) hz hi (Nat.mod_lt (a + d) (hz i))
    refine .edge h1 ?_
    rw [h2]
    have : (a + (d + 1)) % nz i = ((a + d) % nz i + 1) % nz i := by rw [Nat.mod_add_mod]; rfl
    simp [rgE, this]
theorem rg_all (hz : ∀ i, 1 ≤ nz i) {S : Nat → Prop} {i a b : Nat} (hi : i < R) (ha : a < nz i) (hb : b < nz i) (h : Rch (rgG nz K R).e S (frm nz i + a)) : Rch (rgG nz K R).e S (frm nz i + b) := by
  have h1 := rg_round hz hi ha h (b + nz i - a)
  have h2 : (a + (b + nz i - a)) % nz i = b := by
    rw [show a + (b + nz i - a) = b + nz i by omega, Nat.add_mod_right, Nat.mod_eq_of_lt hb]
  rw [h2] at h1
  exact h1
theorem rg_reach (hz : ∀ i, 1 ≤ nz i) {x : Nat} (hx : x < frm nz R) : (rgG nz K R).reach x := by
  obtain ⟨i, k, hi, hk, rfl⟩ := frm_ex hx
  have h1 : (rgG nz K R).reach (frm nz i + (nz i - 1)) := by
    refine .from_ ((rgG_s hz).2 ?_)
    have := suL_mem (nz := nz) hi
    have h2 := hz i
    rwa [show frm nz i + (nz i - 1) = frm nz i + nz i - 1 by omega]
  exact rg_all hz hi (by have := hz i; omega) hk h1
theorem rg_into (hz : ∀ i, 1 ≤ nz i) {P : Nat → Prop} (hP : ∀ x, x < frm nz R → P x) {i k : Nat} (hi : i < R) (hk : k < nz i) : into (rgG nz K R).e P (frm nz R) (frm nz i + k) = 1 := by
  have hzi := hz i
  have hy : (k + nz i - 1) % nz i < nz i := Nat.mod_lt _ hzi
  have hstep : ((k + nz i - 1) % nz i + 1) % nz i = k := by
    rw [Nat.mod_add_mod, show k + nz i - 1 + 1 = k + nz i by omega, Nat.add_mod_right, Nat.mod_eq_of_lt hk]
  refine into_one (y := frm nz i + (k + nz i - 1) % nz i) (frm_lt hi hy) (hP _ (frm_lt hi hy)) ?_ (fun z hz1 hne => ?_)
  · rw [rgG_e hz hi hy]
    unfold rgE
    rw [hstep]
    simp
  · obtain ⟨j, l, hj, hl, rfl⟩ := frm_ex hz1
    rw [rgG_e hz hj hl]
    rw [List.count_eq_zero]
    intro hm
    simp [rgE] at hm
    obtain ⟨h1, h2⟩ := frm_inj hk (Nat.mod_lt _ (hz j)) hm
    subst h1
    refine hne ?_
    congr 1
    by_cases hl2 : l + 1 < nz i
    · rw [Nat.mod_eq_of_lt hl2] at h2
      rw [h2, show l + 1 + nz i - 1 = l + nz i by omega, Nat.add_mod_right, Nat.mod_eq_of_lt hl]
    · have h3 : l + 1 = nz i := by omega
      rw [h3, Nat.mod_self] at h2
      rw [h2, Nat.zero_add, Nat.mod_eq_of_lt (by omega)]
      omega
theorem rgC_bd (i k : Nat) : 1 ≤ rgC nz K i k ∧ rgC nz K i k ≤ 2 := by
  unfold rgC; split <;> omega
theorem rg_ok (hz : ∀ i, 1 ≤ nz i) : GrOk (rgG nz K R) := by
  refine grS_ok (fun c hc => ?_)
  obtain ⟨j, hj⟩ := List.mem_iff_getElem?.1 hc
  have hjl := (List.getElem?_eq_some_iff.1 hj).1
  rw [csL_len] at hjl
  obtain ⟨i, k, hi, hk, rfl⟩ := frm_ex hjl
  rw [csL_at hi hk] at hj
  cases hj
  have := rgC_bd (nz := nz) (K := K) i k
  omega
theorem rg_outer (hz : ∀ i, 1 ≤ nz i) {i k : Nat} (hi : i < R) (hk : k < nz i) : (rgG nz K R).outer (frm nz i + k) ↔ i = K ∧ k = nz i / 2 := by
  unfold Gr.outer
  rw [rgG_n, rg_into hz (fun x hx => rg_reach hz hx) hi hk, rgG_c hi hk]
  have hr : (rgG nz K R).reach (frm nz i + k) := rg_reach hz (frm_lt hi hk)
  unfold rgC
  constructor
  · rintro ⟨_, h⟩
    split at h
    · assumption
    · simp at h
  · intro h
    rw [if_pos h]
    exact ⟨hr, by decide⟩
theorem rg_live (hz : ∀ i, 1 ≤ nz i) {x : Nat} (hx : x < frm nz R) : (rgG nz K R).live x ↔ (frm nz K ≤ x ∧ x < frm nz (K + 1)) := by
  have h4 : frm nz (K + 1) = frm nz K + nz K := rfl
  constructor
  · intro h
    have := h.in_ (P := fun x => x < frm nz R ∧ frm nz K ≤ x ∧ x < frm nz (K + 1)) (fun y hy => ?_) (fun a b ha hb => ?_)
    · exact this.2
    · have hyn : y < frm nz R := by have := Gr.reach_lt (rg_ok hz) hy.1; rwa [rgG_n] at this
      obtain ⟨i, k, hi, hk, rfl⟩ := frm_ex hyn
      obtain ⟨rfl, _⟩ := (rg_outer hz hi hk).1 hy
      exact ⟨hyn, by omega, by omega⟩
    · obtain ⟨i, k, hi, hk, rfl⟩ := frm_ex ha.1
      have h5 : frm nz i + k = frm nz K + (frm nz i + k - frm nz K) := by omega
      obtain ⟨h6, h7⟩ := frm_inj hk (by omega) h5
      subst h6
      rw [rgG_e hz hi hk] at hb
      simp at hb
      subst hb
      have h8 := Nat.mod_lt (k + 1) (hz i)
      refine ⟨rgE_lt hz hi, ?_, ?_⟩
      · unfold rgE; omega
      · unfold rgE; omega
  · rintro ⟨h1, h2⟩
    obtain ⟨i, k, hi, hk, rfl⟩ := frm_ex hx
    have h5 : frm nz i + k = frm nz K + (frm nz i + k - frm nz K) := by omega
    obtain ⟨h6, h7⟩ := frm_inj hk (by omega) h5
    subst h6
    have hzi := hz i
    exact rg_all hz hi (by omega : nz i / 2 < nz i) hk (.from_ ((rg_outer hz hi (by omega)).2 ⟨rfl, rfl⟩))
theorem rg_garb (hz : ∀ i, 1 ≤ nz i) : (rgG nz K R).garb = waL nz K R := by
  rw [waL_filter]
  unfold Gr.garb
  rw [rgG_n]
  refine List.filter_congr fun x hx => ?_
  have hxn := List.mem_range.1 hx
  rw [Bool.eq_iff_iff]
  simp only [decide_eq_true_eq, Bool.not_eq_true', decide_eq_false_iff_not]
  rw [rg_live hz hxn]
  exact ⟨fun h => h.2, fun h => ⟨rg_reach hz hxn, h⟩⟩
end
end Go.Proofs.Ytjmhlmohennknab
