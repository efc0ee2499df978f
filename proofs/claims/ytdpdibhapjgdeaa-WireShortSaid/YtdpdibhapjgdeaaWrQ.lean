/-
  A row of items and a row of places of the call's own beside a writer; what was laid, cut anywhere.
-/
import Derived.Test.YtdpdibhapjgdeaaWrP
import Derived.Test.YtdpdibhapjgdeaaWrK
namespace Go.Proofs.Ytdpdibhapjgdeaa
open Go Go.ChangeShapes Go.WideShapes Go.ChangeAt Go.RowKit

theorem info3 : (Try.prog.info? 3).map (fun i => (i.zero, i.size, i.bytes)) = some (some (.int .i64 0), 1, 8) := by kernel_rfl
theorem num_le {xs : List Int} {n s : Int} : (if numOk n s then lay xs n s.toNat else xs).length ≤ xs.length + 15 := by
  split
  · rename_i h
    unfold numOk at h
    simp only [Bool.and_eq_true] at h
    obtain ⟨k, rfl, hk⟩ := fits_nat h.1
    rw [lay_len, Int.toNat_natCast]
    have := gap_lt (n := xs.length) hk
    rcases hk with rfl | rfl | rfl | rfl <;> omega
  · omega
/-- An item as a number. -/
def num0 (y : It) : It := { y with t := false }
theorem good0 (y : It) : good (num0 y) = numOk y.n y.s := good_f (y := num0 y) rfl
theorem step0 {xs : List Int} {y : It} : (if numOk y.n y.s then lay xs y.n y.s.toNat else xs) = step xs (num0 y) := step_f (y := num0 y) rfl
/-- The items among the first ones that were laid, as numbers. -/
def laidN (l : List It) (q : Nat) : List It := (l.take q).filter fun y => numOk y.n y.s
def numL (l : List It) (q : Nat) : List It := (laidN l q).map num0
theorem laidN_yes {l : List It} {q : Nat} {y : It} (h : l[q]? = some y) (hg : numOk y.n y.s = true) : laidN l (q + 1) = laidN l q ++ [y] := by
  unfold laidN
  rw [List.take_add_one, h, Option.toList_some, List.filter_append, List.filter_cons, if_pos hg]; rfl
theorem laidN_no {l : List It} {q : Nat} {y : It} (h : l[q]? = some y) (hg : numOk y.n y.s = false) : laidN l (q + 1) = laidN l q := by
  unfold laidN
  rw [List.take_add_one, h, Option.toList_some, List.filter_append, List.filter_cons, if_neg (by simp [hg])]; simp
theorem laidN_good {l : List It} {q : Nat} {y : It} (h : y ∈ laidN l q) : numOk y.n y.s = true ∧ y ∈ l := by
  unfold laidN at h
  rw [List.mem_filter] at h
  exact ⟨h.2, List.mem_of_mem_take h.1⟩
theorem laidN_len (l : List It) (q : Nat) : (laidN l q).length ≤ q := by
  unfold laidN
  exact Nat.le_trans (List.length_filter_le _ _) (by simp; omega)
theorem numL_yes {l : List It} {q : Nat} {y : It} (h : l[q]? = some y) (hg : numOk y.n y.s = true) : numL l (q + 1) = numL l q ++ [num0 y] := by unfold numL; rw [laidN_yes h hg]; simp
theorem allL_snoc (l : List It) (y : It) : allL [] (l ++ [y]) = step (allL [] l) y := by unfold allL; rw [List.foldl_append]; rfl
/-- Where each item that was laid ends. -/
def endsL (l : List It) : List Nat := (List.range l.length).map fun i => pos l (i + 1)
theorem pos_app {l : List It} {y : It} {i : Nat} (h : i ≤ l.length) : pos (l ++ [y]) i = pos l i := by unfold pos; rw [List.take_append_of_le_length h]
theorem endsL_snoc (l : List It) (y : It) : endsL (l ++ [y]) = endsL l ++ [(allL [] (l ++ [y])).length] := by
  unfold endsL
  rw [List.length_append, List.length_singleton, List.range_succ, List.map_append]
  congr 1
  · refine List.map_congr_left fun i hi => ?_
    exact pos_app (by have := List.mem_range.1 hi; omega)
  · simp only [List.map_cons, List.map_nil]
    rw [pos_all (by simp)]
theorem endsL_at {l : List It} {i : Nat} (h : i < l.length) : (endsL l)[i]? = some (pos l (i + 1)) := by
  unfold endsL
  rw [List.getElem?_map, List.getElem?_range h]; rfl
theorem endsL_len (l : List It) : (endsL l).length = l.length := by simp [endsL]
/-- What was laid, cut: what stands ahead of the cut is read, what it goes through isn't. -/
theorem cut_yes {l : List It} {i c : Nat} {y : It} (hy : l[i]? = some y) (hg : good y = true) (ht : y.t = false) (h0 : 0 ≤ y.n) (hc : pos l (i + 1) ≤ c) : rd ((allL [] l).take c) (pos l i) y.s = (y.n, pos l (i + 1), 0) := by
  obtain ⟨r, hr⟩ := allL_part hy
  have hn : numOk y.n y.s = true := by unfold good at hg; rw [ht] at hg; simpa using hg
  unfold numOk at hn
  simp only [Bool.and_eq_true, decide_eq_true_eq] at hn
  obtain ⟨k, hs, hk⟩ := fits_nat hn.1
  have hst : step (allL [] (l.take i)) y = lay (allL [] (l.take i)) y.n k := by unfold step; rw [if_pos hg, ht, if_neg (by simp), hs, Int.toNat_natCast]
  have hp : pos l (i + 1) = (lay (allL [] (l.take i)) y.n k).length := by unfold pos; rw [allL_succ hy, hst]
  rw [hp] at hc
  rw [hr, hst, hs, hp, take_lay hc]
  exact rd_lay hk h0 (by have := hn.2; rw [hs, Int.toNat_natCast] at this; exact this)
theorem cut_no {l : List It} {i c : Nat} {y : It} (hy : l[i]? = some y) (hg : good y = true) (ht : y.t = false) (hc : c < pos l (i + 1)) : rd ((allL [] l).take c) (pos l i) y.s = (0, pos l i, 6) := by
  obtain ⟨r, hr⟩ := allL_part hy
  have hn : numOk y.n y.s = true := by unfold good at hg; rw [ht] at hg; simpa using hg
  unfold numOk at hn
  simp only [Bool.and_eq_true] at hn
  obtain ⟨k, hs, hk⟩ := fits_nat hn.1
  have hst : step (allL [] (l.take i)) y = lay (allL [] (l.take i)) y.n k := by unfold step; rw [if_pos hg, ht, if_neg (by simp), hs, Int.toNat_natCast]
  have hp : pos l (i + 1) = (lay (allL [] (l.take i)) y.n k).length := by unfold pos; rw [allL_succ hy, hst]
  rw [hp] at hc
  rw [hr, hst, hs]
  exact rd_cut hk hc
def ic (es : List Nat) : List Value := es.map fun e : Nat => Value.int .i64 (e : Int)
/-- Numbers in memory, their block below B. -/
def LInt (W : World) (B : Nat) (ea : Option Addr) (es : List Nat) : Prop := ∀ (i e : Nat), es[i]? = some e → ∃ g, ea = some ⟨g, 0, none⟩ ∧ g < B ∧ W.cell? ⟨g, i, none⟩ = some (.int .i64 (e : Int))
theorem LInt.of_blocks {W W' : World} {B : Nat} {ea : Option Addr} {es : List Nat} (h : LInt W B ea es) (hB : ∀ b, b < B → W'.heap[b]? = W.heap[b]?) : LInt W' B ea es := fun i e he => by
  obtain ⟨g, h1, h2, h3⟩ := h i e he
  exact ⟨g, h1, h2, (World.cell?_of_block (w := W) (w' := W') (a := ⟨g, i, none⟩) (hB g h2)).trans h3⟩
theorem own_lint {W : World} {B n cap : Nat} {ad : Option Addr} {es : List Nat} (h : W.ownsRow B 3 1 (.slice ad n cap) n (ic es)) : LInt W W.heap.size ad es := by
  rcases h.2 with ⟨h1, h2⟩ | ⟨g, cap', cur, hv, hb, hg, hn, hm, hc, htk⟩
  · have hl : es = [] := List.eq_nil_of_length_eq_zero (by have := h.1; rw [h2] at this; simpa [ic] using this)
    subst hl
    exact fun i e he => by simp at he
  · cases hv
    have hl : es.length = n := by simpa [ic] using h.1
    intro i e he
    have hi : i < es.length := (List.getElem?_eq_some_iff.1 he).1
    refine ⟨g, rfl, (Array.getElem?_eq_some_iff.1 hg).1, ?_⟩
    rw [h.cellAt i (by omega)]
    simp [ic, he]
/-- The law's writer, the items that were laid, and where they end. -/
structure WkS (w W : World) (p : Nat) (v lv ev : Value) (xs : List Int) (l : List It) (es : List Nat) : Prop where
  it : WkI w W p v lv xs l
  row : W.ownsRow w.heap.size 3 1 ev es.length (ic es)
  ne : ∀ j, ev.ownBlock = some j → j ≠ p ∧ v.ownBlock ≠ some j ∧ lv.ownBlock ≠ some j
theorem WkS.on {w W W' : World} {p : Nat} {v lv ev : Value} {xs : List Int} {l : List It} {es : List Nat} (h : WkS w W p v lv ev xs l es) (hB : Below W.heap.size W W') : WkS w W' p v lv ev xs l es :=
  ⟨h.it.on hB, (Fr.of_below (fp := fun _ => False) hB).owns h.row (fun _ _ h => h), h.ne⟩
theorem WkS.to {w W W' : World} {p : Nat} {v v' lv ev : Value} {xs ys : List Int} {l : List It} {es : List Nat} (h : WkS w W p v lv ev xs l es) (k : WrTo W p v W' v' ys) : WkS w W' p v' lv ev ys l es :=
  ⟨h.it.to k, k.fr.owns h.row (fun j hj e => by
    rcases e with e | e
    · exact (h.ne j hj).1 e
    · exact (h.ne j hj).2.1 e), fun j hj => ⟨(h.ne j hj).1, fun e => by
    rcases k.own j e with e1 | e1
    · exact (h.ne j hj).2.1 e1
    · have := (h.row.lt j hj).2; omega, (h.ne j hj).2.2⟩⟩
theorem WkS.item {w W w5 : World} {p m : Nat} {v lv ev v5 : Value} {xs : List Int} {l : List It} {es : List Nat} {y : It} {ob : Obj} (h : WkS w W p v lv ev xs l es) (hown : w5.ownsRow w.heap.size 30 4 v5 m (icells l ++ icl y)) (hg : (W.alloc ob).grownBy w5 lv.ownBlock)
    (hat : v5.ownBlock = lv.ownBlock ∨ v5.ownBlock = some (W.alloc ob).heap.size) : WkS w w5 p v v5 ev xs (l ++ [y]) es := by
  have hf : Fr (fun j => lv.ownBlock = some j) W w5 := ((Fr.refl _ W).alloc ob).grown hg (fun k hk _ => hk)
  refine ⟨h.it.push hown hg hat, hf.owns h.row (fun k hk e => (h.ne k hk).2.2 e), fun j hj => ⟨(h.ne j hj).1, (h.ne j hj).2.1, fun e => ?_⟩⟩
  rcases hat with e2 | e2
  · exact (h.ne j hj).2.2 (by rw [← e2]; exact e)
  · rw [e] at e2; cases e2
    have := (h.row.lt _ hj).2
    simp at this; omega
theorem WkS.last {w W w5 : World} {p m : Nat} {v lv ev v5 : Value} {xs : List Int} {l : List It} {es : List Nat} {e0 : Nat} {ob : Obj} (h : WkS w W p v lv ev xs l es) (hown : w5.ownsRow w.heap.size 3 1 v5 m (ic es ++ [.int .i64 (e0 : Int)])) (hg : (W.alloc ob).grownBy w5 ev.ownBlock)
    (hat : v5.ownBlock = ev.ownBlock ∨ v5.ownBlock = some (W.alloc ob).heap.size) : WkS w w5 p v lv v5 xs l (es ++ [e0]) := by
  have hf : Fr (fun j => ev.ownBlock = some j) W w5 := ((Fr.refl _ W).alloc ob).grown hg (fun k hk _ => hk)
  have hm : m = (es ++ [e0]).length := by
    have := hown.1
    simp [ic] at this
    simp; omega
  have hp : ¬ ev.ownBlock = some p := fun e => (h.ne p e).1 rfl
  have hi := h.it
  have hv : ∀ k, v.ownBlock = some k → ¬ ev.ownBlock = some k := fun k hk e => (h.ne k e).2.1 hk
  refine ⟨⟨⟨hi.wr.wr.fr hf hp hv, hi.wr.below.trans (hf.below hi.wr.below.size (fun k hk => (h.row.lt k hk).1)), hi.wr.lo, hi.wr.own⟩, hf.owns hi.row (fun k hk e => (h.ne k e).2.2 hk), hi.ne⟩, by rw [← hm]; simpa [ic] using hown, fun j hj => ?_⟩
  rcases hat with e | e
  · exact h.ne j (by rw [← e]; exact hj)
  · rw [hj] at e
    cases e
    have h1 := hi.wr.wr.lt
    exact ⟨by simp; omega, fun e => by have := (hi.wr.wr.row.lt _ e).2; simp at this; omega, fun e => by have := (hi.row.lt _ e).2; simp at this; omega⟩
/-- How the law stands between two items that it reads. -/
def BkS (w wr : World) (B p : Nat) (v : Value) (bs : List Int) (l : List It) (la ea : Option Addr) (es : List Nat) (i : Nat) : Prop := RdW wr p v i bs ∧ Below w.heap.size w wr ∧ IRow wr B la l ∧ LInt wr B ea es ∧ B ≤ p ∧ w.heap.size ≤ B ∧ B ≤ wr.heap.size
theorem BkS.go {w wr w2 : World} {B p i j : Nat} {v : Value} {bs : List Int} {l : List It} {la ea : Option Addr} {es : List Nat} (h : BkS w wr B p v bs l la ea es i) (hr : RdW w2 p v j bs) (hf : Fr (fun k => k = p) wr w2) : BkS w w2 B p v bs l la ea es j := by
  have hb : ∀ b, b < B → w2.heap[b]? = wr.heap[b]? := fun b hb => hf.block b (Nat.lt_of_lt_of_le hb h.2.2.2.2.2.2) (fun e => by have := h.2.2.2.2.1; omega)
  exact ⟨hr, h.2.1.trans (hf.below h.2.1.size (fun k hk => by rw [hk]; exact Nat.le_trans h.2.2.2.2.2.1 h.2.2.2.2.1)), h.2.2.1.of_blocks hb, h.2.2.2.1.of_blocks hb, h.2.2.2.2.1, h.2.2.2.2.2.1, Nat.le_trans h.2.2.2.2.2.2 hf.size⟩
end Go.Proofs.Ytdpdibhapjgdeaa
