/-
  Counts by keys as a list of pairs by rising keys: what is laid, cut and told. No program.
-/
import Derived.Maps.Ext
import Derived.Maps.OwnSet
namespace Go.Proofs.Ytmmmjkmhlkkdkaa
open Go

abbrev TM := List (Int × Int)
/-- The list as a map's datum. -/
def dat (l : TM) : DataW Unit := .map (l.map fun p => (Lit.int .u64 p.1, DataW.lit (.int .u32 p.2)))
def lay (x : Int × Int) : TM → TM
  | [] => [x]
  | y :: r => if x.1 < y.1 then x :: y :: r else y :: lay x r
def cut (l : TM) (k : Int) : TM := l.filter fun p => !(p.1 == k)
def putM (l : TM) (k c : Int) : TM := lay (k, c) (cut l k)
def getM (l : TM) (k : Int) : Int := match l.find? (fun p => p.1 == k) with | some p => p.2 | none => 0
def setM (l : TM) (k c : Int) : TM := if c = 0 then cut l k else putM l k c
def sumM (l : TM) : Int := (l.map (·.2)).sum
def Rising (l : TM) : Prop := l.Pairwise fun a b => a.1 < b.1

theorem dat_lay (k c : Int) : ∀ l : TM, DataW.insert (Lit.int .u64 k, DataW.lit (H := Unit) (.int .u32 c)) (l.map fun p => (Lit.int .u64 p.1, DataW.lit (.int .u32 p.2))) = (lay (k, c) l).map fun p => (Lit.int .u64 p.1, DataW.lit (.int .u32 p.2))
  | [] => rfl
  | y :: r => by
    unfold lay
    simp only [List.map_cons, DataW.insert, Lit.before]
    by_cases h : k < y.1
    · simp [h]
    · simp [h, dat_lay k c r]
theorem dat_cut0 (l : TM) (k : Int) : (l.map fun p => (Lit.int .u64 p.1, DataW.lit (H := Unit) (.int .u32 p.2))).filter (fun p => !p.1.sameKey (.int .u64 k)) = (cut l k).map fun p => (Lit.int .u64 p.1, DataW.lit (.int .u32 p.2)) := by
  unfold cut
  rw [List.filter_map]
  congr 1
  refine List.filter_congr fun p _ => ?_
  simp [Lit.sameKey, BEq.beq]
theorem dat_put (l : TM) (k c : Int) : (dat l).put (.int .u64 k) (.lit (.int .u32 c)) = dat (putM l k c) := by
  unfold dat putM
  simp only [DataW.put]
  rw [dat_cut0, dat_lay]
theorem dat_cut (l : TM) (k : Int) : (dat l).del (.int .u64 k) = dat (cut l k) := by
  unfold dat
  simp only [DataW.del]
  rw [dat_cut0]
theorem dat_get (l : TM) (k : Int) : (dat l).atKey (.int .u64 k) (.lit (.int .u32 0)) = .lit (.int .u32 (getM l k)) := by
  unfold dat getM
  simp only [DataW.atKey]
  rw [List.find?_map]
  have : ((fun p : Lit × DataW Unit => p.1.sameKey (.int .u64 k)) ∘ fun p : Int × Int => (Lit.int .u64 p.1, DataW.lit (H := Unit) (.int .u32 p.2))) = fun p => p.1 == k := by
    funext p; simp [Lit.sameKey, BEq.beq]
  rw [this]
  cases l.find? (fun p => p.1 == k) <;> rfl

theorem mem_lay {x y : Int × Int} : ∀ {l : TM}, y ∈ lay x l ↔ y = x ∨ y ∈ l
  | [] => by simp [lay]
  | z :: r => by
    unfold lay
    split
    · simp
    · simp only [List.mem_cons, mem_lay (l := r)]
      constructor
      · rintro (h | h | h) <;> simp [h]
      · rintro (h | h | h) <;> simp [h]
theorem lay_length (x : Int × Int) : ∀ l : TM, (lay x l).length = l.length + 1
  | [] => rfl
  | z :: r => by
    unfold lay
    split
    · rfl
    · simp [lay_length x r]
theorem lay_sum (x : Int × Int) : ∀ l : TM, sumM (lay x l) = x.2 + sumM l
  | [] => by simp [lay, sumM]
  | z :: r => by
    unfold lay
    split
    · simp [sumM]
    · have := lay_sum x r
      simp [sumM] at *
      omega
theorem cut_mem {l : TM} {k : Int} {p : Int × Int} : p ∈ cut l k ↔ p ∈ l ∧ p.1 ≠ k := by
  unfold cut; simp [List.mem_filter]
theorem Rising.cut {l : TM} (h : Rising l) (k : Int) : Rising (cut l k) := List.Pairwise.sublist List.filter_sublist h
theorem Rising.lay {x : Int × Int} : ∀ {l : TM}, Rising l → (∀ p ∈ l, p.1 ≠ x.1) → Rising (lay x l)
  | [], _, _ => by simp [Go.Proofs.Ytmmmjkmhlkkdkaa.lay, Rising]
  | z :: r, h, hn => by
    obtain ⟨h1, h2⟩ := List.pairwise_cons.1 h
    unfold Go.Proofs.Ytmmmjkmhlkkdkaa.lay
    have hz := hn z (by simp)
    split
    · rename_i hlt
      exact List.pairwise_cons.2 ⟨fun p hp => by
        rcases List.mem_cons.1 hp with rfl | hp
        · exact hlt
        · have := h1 p hp; omega, h⟩
    · rename_i hge
      refine List.pairwise_cons.2 ⟨fun p hp => ?_, Rising.lay h2 (fun p hp => hn p (by simp [hp]))⟩
      rcases mem_lay.1 hp with rfl | hp
      · omega
      · exact h1 p hp
theorem Rising.put {l : TM} (h : Rising l) (k c : Int) : Rising (putM l k c) := (h.cut k).lay fun _ hp => (cut_mem.1 hp).2
theorem Rising.set {l : TM} (h : Rising l) (k c : Int) : Rising (setM l k c) := by
  unfold setM; split
  · exact h.cut k
  · exact h.put k c

theorem get_none {l : TM} {k : Int} (h : ∀ p ∈ l, p.1 ≠ k) : getM l k = 0 := by
  unfold getM
  rw [List.find?_eq_none.2 (fun p hp => by simpa using h p hp)]
theorem get_cut_same (l : TM) (k : Int) : getM (cut l k) k = 0 := get_none fun _ hp => (cut_mem.1 hp).2
theorem get_cut_other (l : TM) {k k' : Int} (h : k' ≠ k) : getM (cut l k) k' = getM l k' := by
  unfold getM cut
  rw [List.find?_filter]
  congr 1
  congr 1
  funext p
  by_cases e : p.1 = k' <;> simp [e, h]
theorem get_lay_same (k c : Int) : ∀ {l : TM}, (∀ p ∈ l, p.1 ≠ k) → getM (lay (k, c) l) k = c
  | [], _ => by simp [lay, getM]
  | z :: r, h => by
    unfold lay
    split
    · simp [getM]
    · have hz := h z (by simp)
      have := get_lay_same k c (l := r) (fun p hp => h p (by simp [hp]))
      unfold getM at *
      rw [List.find?_cons_of_neg (by simpa using hz)]
      exact this
theorem get_lay_other (k c : Int) {k' : Int} (hk : k' ≠ k) : ∀ (l : TM), getM (lay (k, c) l) k' = getM l k'
  | [] => by simp [lay, getM, Ne.symm hk]
  | z :: r => by
    unfold lay
    split
    · unfold getM
      rw [List.find?_cons_of_neg (by simpa using Ne.symm hk)]
    · have := get_lay_other k c hk r
      unfold getM at *
      by_cases e : z.1 = k'
      · rw [List.find?_cons_of_pos (by simpa using e), List.find?_cons_of_pos (by simpa using e)]
      · rw [List.find?_cons_of_neg (by simpa using e), List.find?_cons_of_neg (by simpa using e)]
        exact this
theorem get_set_same (l : TM) (k c : Int) : getM (setM l k c) k = c := by
  unfold setM; split
  · rename_i h; rw [h]; exact get_cut_same l k
  · exact get_lay_same k c fun _ hp => (cut_mem.1 hp).2
theorem get_set_other (l : TM) (k c : Int) {k' : Int} (h : k' ≠ k) : getM (setM l k c) k' = getM l k' := by
  unfold setM; split
  · exact get_cut_other l h
  · exact (get_lay_other k c h _).trans (get_cut_other l h)

/-- Counts that may be. -/
structure Good (most : Int) (l : TM) : Prop where
  rise : Rising l
  key : ∀ p ∈ l, 0 ≤ p.1 ∧ p.1 ≤ 18446744073709551615
  pos : ∀ p ∈ l, 0 < p.2
  le : ∀ p ∈ l, p.2 ≤ most
theorem Good.nil (most : Int) : Good most [] := ⟨List.Pairwise.nil, by simp, by simp, by simp⟩
theorem get_mem {l : TM} {k : Int} : getM l k = 0 ∨ (k, getM l k) ∈ l := by
  unfold getM
  cases h : l.find? (fun p => p.1 == k) with
  | none => exact .inl rfl
  | some p =>
    right
    have h1 := List.mem_of_find?_eq_some h
    have h2 := List.find?_some h
    simp at h2
    subst h2
    exact h1
theorem Good.get0 {most : Int} {l : TM} (h : Good most l) (k : Int) : 0 ≤ getM l k := by
  rcases get_mem (l := l) (k := k) with e | e
  · omega
  · have := h.pos _ e; simp at this; omega
theorem Good.get1 {most : Int} {l : TM} (h : Good most l) (h0 : 0 ≤ most) (k : Int) : getM l k ≤ most := by
  rcases get_mem (l := l) (k := k) with e | e
  · omega
  · have := h.le _ e; simpa using this
theorem Good.set {most : Int} {l : TM} (h : Good most l) {k c : Int} (hk : 0 ≤ k ∧ k ≤ 18446744073709551615) (h0 : 0 ≤ c) (h1 : c ≤ most) : Good most (setM l k c) := by
  refine ⟨h.rise.set k c, ?_, ?_, ?_⟩
  all_goals
    intro p hp
    unfold setM at hp
    split at hp
    · have := (cut_mem.1 hp).1
      first | exact h.key p this | exact h.pos p this | exact h.le p this
    · rcases mem_lay.1 hp with rfl | hp
      · simp; omega
      · have := (cut_mem.1 hp).1
        first | exact h.key p this | exact h.pos p this | exact h.le p this
theorem set_length (l : TM) (k c : Int) : (setM l k c).length ≤ l.length + 1 := by
  unfold setM
  have : (cut l k).length ≤ l.length := List.length_filter_le _ _
  split
  · omega
  · unfold putM; rw [lay_length]; omega
theorem get_of_mem {l : TM} (h : Rising l) {p : Int × Int} (hp : p ∈ l) : getM l p.1 = p.2 := by
  induction l with
  | nil => cases hp
  | cons z r ih =>
    obtain ⟨h1, h2⟩ := List.pairwise_cons.1 h
    rcases List.mem_cons.1 hp with rfl | hp
    · simp [getM]
    · have := h1 p hp
      have e := ih h2 hp
      unfold getM at *
      rw [List.find?_cons_of_neg (by simp; omega)]
      exact e
theorem nil_of_get {most : Int} {l : TM} (h : Good most l) (h0 : ∀ k, getM l k = 0) : l = [] := by
  cases l with
  | nil => rfl
  | cons z r =>
    have h1 := get_of_mem h.rise (p := z) (by simp)
    have h2 := h.pos z (by simp)
    rw [h0] at h1
    omega
theorem sum_bound {most : Int} {l : TM} (h : ∀ p ∈ l, 0 ≤ p.2 ∧ p.2 ≤ most) : 0 ≤ sumM l ∧ sumM l ≤ most * l.length := by
  induction l with
  | nil => simp [sumM]
  | cons z r ih =>
    have h1 := ih (fun p hp => h p (by simp [hp]))
    have h2 := h z (by simp)
    unfold sumM at *
    simp only [List.map_cons, List.sum_cons, List.length_cons, Int.natCast_add, Int.natCast_one, Int.mul_add, Int.mul_one]
    omega

/-- The sum of those that aren't to come any more. -/
def sumL (left : Lit → Bool) (l : TM) : Int := (l.map fun p => if left (.int .u64 p.1) then 0 else p.2).sum
theorem same_u64 (a b : Int) : (Lit.int .u64 a).sameKey (.int .u64 b) = decide (a = b) := by simp [Lit.sameKey]
theorem has_mem {l : TM} {p : Int × Int} (h : p ∈ l) : Maps.has (dat l) (.int .u64 p.1) = true := by
  unfold dat
  rw [Maps.has_eq, List.any_eq_true]
  exact ⟨_, List.mem_map.2 ⟨p, h, rfl⟩, by simp [Lit.sameKey]⟩
theorem sumL_start (l : TM) : sumL (Maps.has (dat l)) l = 0 := by
  have : ∀ l2 : TM, (∀ p ∈ l2, p ∈ l) → sumL (Maps.has (dat l)) l2 = 0 := by
    intro l2
    induction l2 with
    | nil => intro _; rfl
    | cons z r ih =>
      intro h
      have h1 := ih (fun p hp => h p (by simp [hp]))
      have h2 := has_mem (h z (by simp))
      unfold sumL at *
      simp [h1, h2]
  exact this l fun _ h => h
theorem sumL_end {left : Lit → Bool} (l : TM) (h : ∀ kl, left kl = false) : sumL left l = sumM l := by
  unfold sumL sumM
  congr 1
  refine List.map_congr_left fun p _ => ?_
  simp [h]
theorem sumL_not {left : Lit → Bool} {x : Int} : ∀ {l : TM}, (∀ p ∈ l, p.1 ≠ x) → sumL (fun z => left z && !z.sameKey (.int .u64 x)) l = sumL left l := by
  intro l h
  unfold sumL
  congr 1
  refine List.map_congr_left fun p hp => ?_
  have := h p hp
  simp [same_u64, this]
theorem sumL_cons (left : Lit → Bool) (z : Int × Int) (r : TM) : sumL left (z :: r) = (if left (.int .u64 z.1) then 0 else z.2) + sumL left r := by simp [sumL]
theorem sumL_step {left : Lit → Bool} {x c : Int} (hl : left (.int .u64 x) = true) : ∀ {l : TM}, Rising l → (x, c) ∈ l → sumL (fun z => left z && !z.sameKey (.int .u64 x)) l = sumL left l + c := by
  intro l
  induction l with
  | nil => intro _ h; cases h
  | cons z r ih =>
    intro h hm
    obtain ⟨h1, h2⟩ := List.pairwise_cons.1 h
    rcases List.mem_cons.1 hm with rfl | hm
    · have e := sumL_not (left := left) (x := x) (l := r) (fun p hp => by have := h1 p hp; simp at this; omega)
      rw [sumL_cons, sumL_cons, e]
      simp [same_u64, hl]
      omega
    · have e := ih h2 hm
      have hne : z.1 ≠ x := by have := h1 _ hm; simp at this; omega
      rw [sumL_cons, sumL_cons, e]
      simp [same_u64, hne]
      omega
theorem mem_of_at {l : TM} {x c : Int} (h : ∀ zd, (dat l).atKey (.int .u64 x) zd = .lit (.int .u32 c)) : (x, c) ∈ l := by
  have h0 := h (.lit (.int .u32 0))
  rw [dat_get] at h0
  simp only [DataW.lit.injEq, Lit.int.injEq, true_and] at h0
  have h1 := h .nil
  unfold dat at h1
  simp only [DataW.atKey] at h1
  rw [List.find?_map] at h1
  have : ((fun p : Lit × DataW Unit => p.1.sameKey (.int .u64 x)) ∘ fun p : Int × Int => (Lit.int .u64 p.1, DataW.lit (H := Unit) (.int .u32 p.2))) = fun p => p.1 == x := by
    funext p; simp [Lit.sameKey, BEq.beq]
  rw [this] at h1
  cases hf : l.find? (fun p => p.1 == x) with
  | none => rw [hf] at h1; cases h1
  | some p =>
    have hm := List.mem_of_find?_eq_some hf
    have hs := List.find?_some hf
    rw [hf] at h1
    simp at h1 hs
    obtain ⟨a, b⟩ := p
    simp at h1 hs
    subst h1; subst hs
    exact hm
theorem sumL_bound {left : Lit → Bool} {l : TM} (h : ∀ p ∈ l, 0 ≤ p.2 ∧ p.2 ≤ 4294967295) : 0 ≤ sumL left l ∧ sumL left l ≤ 4294967295 * l.length := by
  induction l with
  | nil => simp [sumL]
  | cons z r ih =>
    have h1 := ih (fun p hp => h p (by simp [hp]))
    have h2 := h z (by simp)
    unfold sumL at *
    simp only [List.map_cons, List.sum_cons, List.length_cons, Int.natCast_add, Int.natCast_one, Int.mul_add, Int.mul_one]
    split <;> omega
end Go.Proofs.Ytmmmjkmhlkkdkaa
