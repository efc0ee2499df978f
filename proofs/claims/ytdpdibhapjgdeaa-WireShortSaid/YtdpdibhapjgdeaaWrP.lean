/-
  A row of items of the call's own beside a writer; what was laid is read, item by item.
-/
import Derived.Test.YtdpdibhapjgdeaaWrJ
import Derived.Maps.AppendAt
namespace Go.Proofs.Ytdpdibhapjgdeaa
open Go Go.ChangeShapes Go.WideShapes Go.ChangeAt Go.RowKit

theorem info30 : (Try.prog.info? 30).map (fun i => (i.zero, i.size, i.bytes)) = some (some (.agg #[.bool false, .int .u64 0, .int .i64 0, .slice none 0 0]), 4, 48) := by kernel_rfl
def icells (l : List It) : List Value := l.flatMap icl
theorem icells_len (l : List It) : (icells l).length = l.length * 4 := by
  induction l with
  | nil => rfl
  | cons y l ih => simp only [icells, List.flatMap_cons, List.length_append] at ih ⊢; rw [ih]; simp [icl]; omega
theorem icells_app (l : List It) (y : It) : icells (l ++ [y]) = icells l ++ icl y := by simp [icells]
theorem icells_at : ∀ {l : List It} {i : Nat} {y : It}, l[i]? = some y → ∀ j, j < 4 → (icells l)[i * 4 + j]? = (icl y)[j]?
  | z :: l, 0, y, h, j, hj => by
    simp at h; subst h
    simp only [icells, List.flatMap_cons]
    rw [List.getElem?_append_left (by simp [icl]; omega)]
    congr 1; omega
  | z :: l, i + 1, y, h, j, hj => by
    simp only [icells, List.flatMap_cons]
    rw [List.getElem?_append_right (by simp [icl]; omega)]
    have := icells_at (l := l) (i := i) (by simpa using h) j hj
    rw [← this]
    congr 1
    simp [icl]; omega
theorem icl_one (y : It) : ∀ u ∈ icl y, u.oneCell' = true := fun u hu => by
  simp only [icl, List.mem_cons, List.not_mem_nil, or_false] at hu
  rcases hu with rfl | rfl | rfl | rfl <;> rfl
/-- A row of items of the call's own is one. -/
theorem own_irow {W : World} {B n cap : Nat} {ad : Option Addr} {l : List It} (h : W.ownsRow B 30 4 (.slice ad n cap) n (icells l)) (ht : ∀ y ∈ l, Bs W W.heap.size y.a y.x ∧ (y.a = none → y.c = 0 ∧ y.x.length = 0)) (ho : ∀ y ∈ l, ItOk y) : IRow W W.heap.size ad l := by
  rcases h.2 with ⟨h1, h2⟩ | ⟨g, cap', cur, hv, hb, hg, hn, hm, hc, htk⟩
  · have hl : l = [] := List.eq_nil_of_length_eq_zero (by have := h.1; rw [icells_len, h2] at this; omega)
    subst hl
    exact ⟨fun h => absurd h (by simp), fun b o _ i y hy => by simp at hy, ht, ho⟩
  · cases hv
    have hl : l.length = n := by have := h.1; rw [icells_len] at this; omega
    refine ⟨fun _ => ⟨g, 0, rfl, (Array.getElem?_eq_some_iff.1 hg).1⟩, fun b o he i y hy j v hv => ?_, ht, ho⟩
    cases he
    have hi : i < l.length := (List.getElem?_eq_some_iff.1 hy).1
    have hj : j < 4 := (List.getElem?_eq_some_iff.1 hv).1
    have := h.cellAt (i * 4 + j) (by omega)
    rw [icells_at hy j hj, hv] at this
    rw [Nat.zero_add]; exact this
/-- The law's writer, and the items that were laid. -/
structure WkI (w W : World) (p : Nat) (v lv : Value) (xs : List Int) (l : List It) : Prop where
  wr : WrOwn w W p v xs
  row : W.ownsRow w.heap.size 30 4 lv l.length (icells l)
  ne : ∀ j, lv.ownBlock = some j → j ≠ p ∧ v.ownBlock ≠ some j
theorem WkI.on {w W W' : World} {p : Nat} {v lv : Value} {xs : List Int} {l : List It} (h : WkI w W p v lv xs l) (hB : Below W.heap.size W W') : WkI w W' p v lv xs l :=
  ⟨h.wr.on hB, (Fr.of_below (fp := fun _ => False) hB).owns h.row (fun _ _ h => h), h.ne⟩
theorem WkI.to {w W W' : World} {p : Nat} {v v' lv : Value} {xs ys : List Int} {l : List It} (h : WkI w W p v lv xs l) (k : WrTo W p v W' v' ys) : WkI w W' p v' lv ys l :=
  ⟨h.wr.to k, k.fr.owns h.row (fun j hj e => by
    rcases e with e | e
    · exact (h.ne j hj).1 e
    · exact (h.ne j hj).2 e), fun j hj => ⟨(h.ne j hj).1, fun e => by
    rcases k.own j e with e1 | e1
    · exact (h.ne j hj).2 e1
    · have := (h.row.lt j hj).2; omega⟩⟩
theorem WkI.push {w W w5 : World} {p m : Nat} {v lv v5 : Value} {xs : List Int} {l : List It} {y : It} {ob : Obj} (h : WkI w W p v lv xs l) (hown : w5.ownsRow w.heap.size 30 4 v5 m (icells l ++ icl y)) (hg : (W.alloc ob).grownBy w5 lv.ownBlock)
    (hat : v5.ownBlock = lv.ownBlock ∨ v5.ownBlock = some (W.alloc ob).heap.size) : WkI w w5 p v v5 xs (l ++ [y]) := by
  have hf : Fr (fun j => lv.ownBlock = some j) W w5 := ((Fr.refl _ W).alloc ob).grown hg (fun k hk _ => hk)
  have hm : m = (l ++ [y]).length := by
    have := hown.1
    simp only [List.length_append, icells_len] at this
    have h4 : (icl y).length = 4 := rfl
    rw [h4] at this
    simp; omega
  have hp : ¬ lv.ownBlock = some p := fun e => (h.ne p e).1 rfl
  refine ⟨⟨h.wr.wr.fr hf hp (fun k hk e => (h.ne k e).2 hk), h.wr.below.trans (hf.below h.wr.below.size (fun k hk => (h.row.lt k hk).1)), h.wr.lo, h.wr.own⟩, by rw [icells_app, ← hm]; exact hown, fun j hj => ?_⟩
  rcases hat with e | e
  · exact h.ne j (by rw [← e]; exact hj)
  · rw [hj] at e
    cases e
    have h1 := h.wr.wr.lt
    exact ⟨by simp; omega, fun e => by have := (h.wr.wr.row.lt _ e).2; simp at this; omega⟩
/-- Where the reading stands behind some items. -/
def pos (l : List It) (i : Nat) : Nat := (allL [] (l.take i)).length
theorem pos_zero (l : List It) : pos l 0 = 0 := rfl
theorem read_num {l : List It} {i : Nat} {y : It} (hy : l[i]? = some y) (hg : good y = true) (ht : y.t = false) (h0 : 0 ≤ y.n) : rd (allL [] l) (pos l i) y.s = (y.n, pos l (i + 1), 0) := by
  obtain ⟨r, hr⟩ := allL_part hy
  have hn : numOk y.n y.s = true := by unfold good at hg; rw [ht] at hg; simpa using hg
  have hn2 := hn
  unfold numOk at hn2
  simp only [Bool.and_eq_true, decide_eq_true_eq] at hn2
  obtain ⟨k, hs, hk⟩ := fits_nat hn2.1
  have hst : step (allL [] (l.take i)) y = lay (allL [] (l.take i)) y.n k := by unfold step; rw [if_pos hg, ht, if_neg (by simp), hs, Int.toNat_natCast]
  have hp : pos l (i + 1) = (lay (allL [] (l.take i)) y.n k).length := by unfold pos; rw [allL_succ hy, hst]
  rw [hr, hst, hs, hp]
  exact rd_lay hk h0 (by have := hn2.2; rw [hs, Int.toNat_natCast] at this; exact this)
theorem read_text {l : List It} {i : Nat} {y : It} (hy : l[i]? = some y) (hg : good y = true) (ht : y.t = true) : rdT (allL [] l) (pos l i) 65535 = (y.x, pos l (i + 1), 0) := by
  obtain ⟨r, hr⟩ := allL_part hy
  have hn : y.x.length ≤ 65535 := by unfold good at hg; rw [ht] at hg; simpa using hg
  have hst : step (allL [] (l.take i)) y = layT (allL [] (l.take i)) y.x := by unfold step; rw [if_pos hg, ht, if_pos rfl]
  have hp : pos l (i + 1) = (layT (allL [] (l.take i)) y.x).length := by unfold pos; rw [allL_succ hy, hst]
  rw [hr, hst, hp]
  exact rdT_lay hn
theorem pos_all {l : List It} {i : Nat} (h : l.length ≤ i) : pos l i = (allL [] l).length := by unfold pos; rw [List.take_of_length_le h]
theorem good_t {y : It} (h : y.t = true) : good y = textOk y.x := by unfold good textOk; rw [h]; simp
theorem good_f {y : It} (h : y.t = false) : good y = numOk y.n y.s := by unfold good; rw [h]; simp
theorem step_t {xs : List Int} {y : It} (h : y.t = true) : (if textOk y.x then layT xs y.x else xs) = step xs y := by unfold step; rw [good_t h, h]; simp
theorem step_f {xs : List Int} {y : It} (h : y.t = false) : (if numOk y.n y.s then lay xs y.n y.s.toNat else xs) = step xs y := by unfold step; rw [good_f h, h]; simp
/-- The items among the first ones that were laid. -/
def laidL (l : List It) (q : Nat) : List It := (l.take q).filter good
theorem laidL_yes {l : List It} {q : Nat} {y : It} (h : l[q]? = some y) (hg : good y = true) : laidL l (q + 1) = laidL l q ++ [y] := by
  unfold laidL
  rw [List.take_add_one, h, Option.toList_some, List.filter_append, List.filter_cons, if_pos hg]; rfl
theorem laidL_no {l : List It} {q : Nat} {y : It} (h : l[q]? = some y) (hg : good y = false) : laidL l (q + 1) = laidL l q := by
  unfold laidL
  rw [List.take_add_one, h, Option.toList_some, List.filter_append, List.filter_cons, if_neg (by simp [hg])]; simp
theorem laidL_good {l : List It} {q : Nat} {y : It} (h : y ∈ laidL l q) : good y = true ∧ y ∈ l := by
  unfold laidL at h
  rw [List.mem_filter] at h
  exact ⟨h.2, List.mem_of_mem_take h.1⟩
theorem laidL_len (l : List It) (q : Nat) : (laidL l q).length ≤ q := by
  unfold laidL
  exact Nat.le_trans (List.length_filter_le _ _) (by simp; omega)
theorem allL_laid (l : List It) (q : Nat) : allL [] (l.take q) = allL [] (laidL l q) := allL_good _ _
theorem step_good {xs : List Int} {y : It} (h : good y = false) : step xs y = xs := by unfold step; rw [if_neg (by simp [h])]
theorem allL_byt : ∀ (l : List It) (xs : List Int), (∀ y ∈ l, Byt y.x) → Byt xs → Byt (allL xs l)
  | [], _, _, h => h
  | y :: l, xs, hx, h => by
    refine allL_byt l (step xs y) (fun z hz => hx z (by simp [hz])) ?_
    have hlay : ∀ n k, Byt (lay xs n k) := fun n k z hz => by
      simp only [lay, List.mem_append, List.mem_replicate] at hz
      rcases hz with (hz | hz) | hz
      · exact h z hz
      · rw [hz.2]; omega
      · exact byt_ok k n z hz
    unfold step
    split
    · split
      · intro z hz
        simp only [layT, List.mem_append] at hz
        rcases hz with hz | hz
        · exact hlay _ _ z hz
        · exact hx y (by simp) z hz
      · exact hlay _ _
    · exact h
end Go.Proofs.Ytdpdibhapjgdeaa
