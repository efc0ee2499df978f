/-
  While rings are laid: the graph's box, its two rows, the lists, and two rows of numbers, by labels of blocks.
-/
import Derived.Test.YtjmhlmohennknabCyRg
import Derived.Test.YtjmhlmohennknabCySh
namespace Go.Proofs.Ytjmhlmohennknab
open Go Go.ChangeShapes Go.WideShapes Go.ChangeAt Go.RowKit

structure RgI (B : Nat) (W : World) (xb : Nat) (F : Nat → Nat) (cv ev sv av : Value) (xs : List Int) (vs : List Value) (ts su wa : List Nat) : Prop where
  x : W.heap[xb]? = some (.cells #[cv, ev] TGr (0, 0))
  c : W.ownsRow B TU32 1 cv xs.length (xs.map cU)
  e : W.ownsRow B TSI 1 ev vs.length vs
  s : OwI B W sv su
  a : OwI B W av wa
  l : vs.length = ts.length
  r : ∀ (i : Nat) v t, vs[i]? = some v → ts[i]? = some t → ∃ b, v = .slice (some ⟨b, 0, none⟩) 1 1 ∧ W.heap[b]? = some (.cells #[nI t] TI (0, 0)) ∧ F b = 6
  lx : F xb = 1
  lc : ∀ k, cv.ownBlock = some k → F k = 2
  le : ∀ k, ev.ownBlock = some k → F k = 3
  ls : ∀ k, sv.ownBlock = some k → F k = 4
  la : ∀ k, av.ownBlock = some k → F k = 5
  b0 : B ≤ xb
/-- What was labelled stays; what is new has another label. -/
def nlab (F : Nat → Nat) (n p : Nat) (k : Nat) : Nat := if k < n then F k else p
theorem nlab_lt {F : Nat → Nat} {n p k : Nat} (h : k < n) : nlab F n p k = F k := if_pos h
theorem nlab_ge {F : Nat → Nat} {n p k : Nat} (h : n ≤ k) : nlab F n p k = p := if_neg (by omega)
section
variable {B : Nat} {W W' : World} {xb : Nat} {F F' : Nat → Nat} {cv ev sv av : Value} {xs : List Int} {vs : List Value} {ts su wa : List Nat}
theorem lab_own {T : TypeId} {v : Value} {n p m : Nat} {us : List Value} {fp : Nat → Prop} (h : W.ownsRow B T 1 v n us) (hl : ∀ k, v.ownBlock = some k → F k = p) (hf : Fr fp W W') (hF : ∀ k, k < W.heap.size → F' k = F k) (hfp : ∀ k, fp k → k < W.heap.size → F k = m) (hpm : p ≠ m) : W'.ownsRow B T 1 v n us ∧ ∀ k, v.ownBlock = some k → F' k = p :=
  ⟨hf.owns h (fun k hk e => by have h1 := hl k hk; have h2 := hfp k e (h.lt k hk).2; omega), fun k hk => by rw [hF k (h.lt k hk).2]; exact hl k hk⟩
theorem RgI.lab_r {m : Nat} {fp : Nat → Prop} (h : RgI B W xb F cv ev sv av xs vs ts su wa) (hf : Fr fp W W') (hF : ∀ k, k < W.heap.size → F' k = F k) (hfp : ∀ k, fp k → k < W.heap.size → F k = m) (hpm : 6 ≠ m) :
    ∀ (i : Nat) v t, vs[i]? = some v → ts[i]? = some t → ∃ b, v = .slice (some ⟨b, 0, none⟩) 1 1 ∧ W'.heap[b]? = some (.cells #[nI t] TI (0, 0)) ∧ F' b = 6 := fun i v t h1 h2 => by
  obtain ⟨b, h3, h4, h5⟩ := h.r i v t h1 h2
  have hb := (Array.getElem?_eq_some_iff.1 h4).1
  exact ⟨b, h3, (hf.block b hb (fun e => by have := hfp b e hb; omega)).trans h4, by rw [hF b hb]; exact h5⟩
theorem RgI.lab_x {m : Nat} {fp : Nat → Prop} (h : RgI B W xb F cv ev sv av xs vs ts su wa) (hf : Fr fp W W') (hF : ∀ k, k < W.heap.size → F' k = F k) (hfp : ∀ k, fp k → k < W.heap.size → F k = m) (hpm : 1 ≠ m) : W'.heap[xb]? = some (.cells #[cv, ev] TGr (0, 0)) ∧ F' xb = 1 := by
  have hb := (Array.getElem?_eq_some_iff.1 h.x).1
  exact ⟨(hf.block xb hb (fun e => by have h1 := hfp xb e hb; have := h.lx; omega)).trans h.x, by rw [hF xb hb]; exact h.lx⟩
theorem RgI.x0 (h : RgI B W xb F cv ev sv av xs vs ts su wa) : W.cell? ⟨xb, 0, none⟩ = some cv := by rw [cell_of_row _ _ 0 _ _ _ h.x]; rfl
theorem RgI.x1 (h : RgI B W xb F cv ev sv av xs vs ts su wa) : W.cell? ⟨xb, 1, none⟩ = some ev := by rw [cell_of_row _ _ 1 _ _ _ h.x]; rfl
theorem RgI.fz (h : RgI B W xb F cv ev sv av xs vs ts su wa) (k : Nat) : W.frozen? ⟨xb, k, none⟩ = false := frozen_of_row _ _ _ _ _ h.x
/-- One more count. -/
theorem RgI.growC (h : RgI B W xb F cv ev sv av xs vs ts su wa) {w' : World} {v' : Value} {o : Obj} {y : Int} (hr : w'.ownsRow B TU32 1 v' (xs ++ [y]).length ((xs ++ [y]).map cU)) (hg : (W.alloc o).grownBy w' cv.ownBlock) (hat : v'.ownBlock = cv.ownBlock ∨ v'.ownBlock = some (W.alloc o).heap.size) :
    w'.heap[xb]? = some (.cells #[cv, ev] TGr (0, 0)) ∧ RgI B (w'.setCell ⟨xb, 0, none⟩ v') xb (nlab F W.heap.size 2) v' ev sv av (xs ++ [y]) vs ts su wa ∧ Below B W (w'.setCell ⟨xb, 0, none⟩ v') := by
  have hf : Fr (fun k => cv.ownBlock = some k) W w' := ((Fr.refl _ _).alloc o).grown hg (fun k hk _ => hk)
  have hF : ∀ k, k < W.heap.size → nlab F W.heap.size 2 k = F k := fun k hk => nlab_lt hk
  have hfp : ∀ k, cv.ownBlock = some k → k < W.heap.size → F k = 2 := fun k hk _ => h.lc k hk
  obtain ⟨x1, x2⟩ := h.lab_x hf hF hfp (by decide)
  obtain ⟨e1, e2⟩ := lab_own h.e h.le hf hF hfp (by decide)
  obtain ⟨s1, s2⟩ := lab_own h.s h.ls hf hF hfp (by decide)
  obtain ⟨a1, a2⟩ := lab_own h.a h.la hf hF hfp (by decide)
  have r1 := h.lab_r hf hF hfp (by decide)
  have lc' : ∀ k, v'.ownBlock = some k → nlab F W.heap.size 2 k = 2 := fun k hk => by
    rcases hat with e | e
    · rw [e] at hk; rw [nlab_lt (h.c.lt k hk).2]; exact h.lc k hk
    · rw [e] at hk; cases hk; exact nlab_ge (by simp)
  have hb := (Array.getElem?_eq_some_iff.1 h.x).1
  refine ⟨x1, ?_, (hf.below (by have := h.b0; omega) (fun k hk => (h.c.lt k hk).1)).trans (((Fr.refl (fun b => b = xb) w').setCell _ _ (fun _ => rfl)).below (by have := h.b0; have := hf.size; omega) (fun k hk => by rw [hk]; exact h.b0))⟩
  have hfs : Fr (fun b => b = xb) w' (w'.setCell ⟨xb, 0, none⟩ v') := (Fr.refl _ _).setCell _ _ (fun _ => rfl)
  have hfps : ∀ b, b = xb → b < w'.heap.size → nlab F W.heap.size 2 b = 1 := fun b e _ => by rw [e]; exact x2
  have hFs : ∀ b, b < w'.heap.size → nlab F W.heap.size 2 b = nlab F W.heap.size 2 b := fun _ _ => rfl
  refine ⟨by rw [heap_setCell_same _ _ _ _ _ _ x1]; rfl, (lab_own hr lc' hfs hFs hfps (by decide)).1, (lab_own e1 e2 hfs hFs hfps (by decide)).1, (lab_own s1 s2 hfs hFs hfps (by decide)).1, (lab_own a1 a2 hfs hFs hfps (by decide)).1, h.l, fun i v t h1 h2 => ?_, x2, lc', e2, s2, a2, h.b0⟩
  obtain ⟨b, h3, h4, h5⟩ := r1 i v t h1 h2
  have hb' := (Array.getElem?_eq_some_iff.1 h4).1
  exact ⟨b, h3, (hfs.block b hb' (fun e => by have := hfps b e hb'; omega)).trans h4, h5⟩
/-- One more list, of one edge. -/
def edlb (F : Nat → Nat) (n k : Nat) : Nat := if k < n then F k else if k = n then 6 else 3
theorem RgI.growE (h : RgI B W xb F cv ev sv av xs vs ts su wa) {w' : World} {v' : Value} {o : Obj} {t : Nat}
    (hr : w'.ownsRow B TSI 1 v' (vs ++ [Value.slice (some ⟨W.heap.size, 0, none⟩) 1 1]).length (vs ++ [Value.slice (some ⟨W.heap.size, 0, none⟩) 1 1])) (hg : ((W.alloc (.cells #[nI t] TI)).alloc o).grownBy w' ev.ownBlock) (hat : v'.ownBlock = ev.ownBlock ∨ v'.ownBlock = some ((W.alloc (.cells #[nI t] TI)).alloc o).heap.size) :
    w'.heap[xb]? = some (.cells #[cv, ev] TGr (0, 0)) ∧ RgI B (w'.setCell ⟨xb, 1, none⟩ v') xb (edlb F W.heap.size) cv v' sv av xs (vs ++ [Value.slice (some ⟨W.heap.size, 0, none⟩) 1 1]) (ts ++ [t]) su wa ∧ Below B W (w'.setCell ⟨xb, 1, none⟩ v') := by
  have hf : Fr (fun k => ev.ownBlock = some k) W w' := (((Fr.refl _ _).alloc _).alloc o).grown hg (fun k hk _ => hk)
  have hF : ∀ k, k < W.heap.size → edlb F W.heap.size k = F k := fun k hk => if_pos hk
  have hfp : ∀ k, ev.ownBlock = some k → k < W.heap.size → F k = 3 := fun k hk _ => h.le k hk
  obtain ⟨x1, x2⟩ := h.lab_x hf hF hfp (by decide)
  obtain ⟨c1, c2⟩ := lab_own h.c h.lc hf hF hfp (by decide)
  obtain ⟨s1, s2⟩ := lab_own h.s h.ls hf hF hfp (by decide)
  obtain ⟨a1, a2⟩ := lab_own h.a h.la hf hF hfp (by decide)
  have r1 := h.lab_r hf hF hfp (by decide)
  have hlt : ∀ k, ev.ownBlock = some k → k < W.heap.size := fun k hk => (h.e.lt k hk).2
  have hnew : w'.heap[W.heap.size]? = some (.cells #[nI t] TI (0, 0)) := by
    rw [hg.block _ (by simp; omega) (fun e => by have := hlt _ e.symm; omega)]
    exact hkeep o (heap_alloc_new W _)
  have le' : ∀ k, v'.ownBlock = some k → edlb F W.heap.size k = 3 := fun k hk => by
    rcases hat with e | e
    · rw [e] at hk; rw [hF k (hlt k hk)]; exact h.le k hk
    · rw [e] at hk; cases hk
      unfold edlb
      rw [if_neg (by simp; omega), if_neg (by simp; omega)]
  refine ⟨x1, ?_, (hf.below (by have := h.b0; have := (Array.getElem?_eq_some_iff.1 h.x).1; omega) (fun k hk => (h.e.lt k hk).1)).trans (((Fr.refl (fun b => b = xb) w').setCell _ _ (fun _ => rfl)).below (by have := h.b0; have := hf.size; have := (Array.getElem?_eq_some_iff.1 h.x).1; omega) (fun k hk => by rw [hk]; exact h.b0))⟩
  have hfs : Fr (fun b => b = xb) w' (w'.setCell ⟨xb, 1, none⟩ v') := (Fr.refl _ _).setCell _ _ (fun _ => rfl)
  have hfps : ∀ b, b = xb → b < w'.heap.size → edlb F W.heap.size b = 1 := fun b e _ => by rw [e]; exact x2
  have hFs : ∀ b, b < w'.heap.size → edlb F W.heap.size b = edlb F W.heap.size b := fun _ _ => rfl
  refine ⟨by rw [heap_setCell_same _ _ _ _ _ _ x1]; rfl, (lab_own c1 c2 hfs hFs hfps (by decide)).1, (lab_own hr le' hfs hFs hfps (by decide)).1, (lab_own s1 s2 hfs hFs hfps (by decide)).1, (lab_own a1 a2 hfs hFs hfps (by decide)).1, by rw [List.length_append, List.length_append, h.l]; rfl, fun i v u h1 h2 => ?_, x2, c2, le', s2, a2, h.b0⟩
  by_cases hi : i < vs.length
  · rw [List.getElem?_append_left hi] at h1
    rw [List.getElem?_append_left (by rw [← h.l]; exact hi)] at h2
    obtain ⟨b, h3, h4, h5⟩ := r1 i v u h1 h2
    have hb' := (Array.getElem?_eq_some_iff.1 h4).1
    exact ⟨b, h3, (hfs.block b hb' (fun e => by have := hfps b e hb'; omega)).trans h4, h5⟩
  · rw [List.getElem?_append_right (by omega)] at h1
    rw [List.getElem?_append_right (by rw [← h.l]; omega), ← h.l] at h2
    cases hd : i - vs.length with
    | zero =>
      rw [hd] at h1 h2
      simp at h1 h2
      subst h1 h2
      have hb' := (Array.getElem?_eq_some_iff.1 hnew).1
      have h6 : edlb F W.heap.size W.heap.size = 6 := by unfold edlb; rw [if_neg (by omega), if_pos rfl]
      exact ⟨_, rfl, (hfs.block _ hb' (fun e => by have := hfps _ e hb'; omega)).trans hnew, h6⟩
    | succ k => rw [hd] at h1; simp at h1
/-- One more number of a row beside it. -/
theorem RgI.growA (h : RgI B W xb F cv ev sv av xs vs ts su wa) {w' : World} {v' : Value} {o : Obj} {y : Nat} (hr : OwI B w' v' (wa ++ [y])) (hg : (W.alloc o).grownBy w' av.ownBlock) (hat : v'.ownBlock = av.ownBlock ∨ v'.ownBlock = some (W.alloc o).heap.size) :
    RgI B w' xb (nlab F W.heap.size 5) cv ev sv v' xs vs ts su (wa ++ [y]) ∧ Below B W w' := by
  have hf : Fr (fun k => av.ownBlock = some k) W w' := ((Fr.refl _ _).alloc o).grown hg (fun k hk _ => hk)
  have hF : ∀ k, k < W.heap.size → nlab F W.heap.size 5 k = F k := fun k hk => nlab_lt hk
  have hfp : ∀ k, av.ownBlock = some k → k < W.heap.size → F k = 5 := fun k hk _ => h.la k hk
  obtain ⟨x1, x2⟩ := h.lab_x hf hF hfp (by decide)
  obtain ⟨c1, c2⟩ := lab_own h.c h.lc hf hF hfp (by decide)
  obtain ⟨e1, e2⟩ := lab_own h.e h.le hf hF hfp (by decide)
  obtain ⟨s1, s2⟩ := lab_own h.s h.ls hf hF hfp (by decide)
  exact ⟨⟨x1, c1, e1, s1, hr, h.l, h.lab_r hf hF hfp (by decide), x2, c2, e2, s2, fun k hk => by
    rcases hat with e | e
    · rw [e] at hk; rw [hF k (World.ownsRow.lt h.a k hk).2]; exact h.la k hk
    · rw [e] at hk; cases hk; exact nlab_ge (by simp), h.b0⟩, hf.below (by have := h.b0; have := (Array.getElem?_eq_some_iff.1 h.x).1; omega) (fun k hk => (World.ownsRow.lt h.a k hk).1)⟩
theorem RgI.growS (h : RgI B W xb F cv ev sv av xs vs ts su wa) {w' : World} {v' : Value} {o : Obj} {y : Nat} (hr : OwI B w' v' (su ++ [y])) (hg : (W.alloc o).grownBy w' sv.ownBlock) (hat : v'.ownBlock = sv.ownBlock ∨ v'.ownBlock = some (W.alloc o).heap.size) :
    RgI B w' xb (nlab F W.heap.size 4) cv ev v' av xs vs ts (su ++ [y]) wa ∧ Below B W w' := by
  have hf : Fr (fun k => sv.ownBlock = some k) W w' := ((Fr.refl _ _).alloc o).grown hg (fun k hk _ => hk)
  have hF : ∀ k, k < W.heap.size → nlab F W.heap.size 4 k = F k := fun k hk => nlab_lt hk
  have hfp : ∀ k, sv.ownBlock = some k → k < W.heap.size → F k = 4 := fun k hk _ => h.ls k hk
  obtain ⟨x1, x2⟩ := h.lab_x hf hF hfp (by decide)
  obtain ⟨c1, c2⟩ := lab_own h.c h.lc hf hF hfp (by decide)
  obtain ⟨e1, e2⟩ := lab_own h.e h.le hf hF hfp (by decide)
  obtain ⟨a1, a2⟩ := lab_own h.a h.la hf hF hfp (by decide)
  exact ⟨⟨x1, c1, e1, hr, a1, h.l, h.lab_r hf hF hfp (by decide), x2, c2, e2, fun k hk => by
    rcases hat with e | e
    · rw [e] at hk; rw [hF k (World.ownsRow.lt h.s k hk).2]; exact h.ls k hk
    · rw [e] at hk; cases hk; exact nlab_ge (by simp), a2, h.b0⟩, hf.below (by have := h.b0; have := (Array.getElem?_eq_some_iff.1 h.x).1; omega) (fun k hk => (World.ownsRow.lt h.s k hk).1)⟩
/-- One count is another one. -/
theorem RgI.inc {g n c : Nat} (h : RgI B W xb F (.slice (some ⟨g, 0, none⟩) n c) ev sv av xs vs ts su wa) (hn : n = xs.length) (j : Nat) (y : Int) :
    RgI B (W.setCell ⟨g, j, none⟩ (cU y)) xb F (.slice (some ⟨g, 0, none⟩) n c) ev sv av (xs.set j y) vs ts su wa ∧ Below B W (W.setCell ⟨g, j, none⟩ (cU y)) := by
  subst hn
  have hf : Fr (fun b => b = g) W (W.setCell ⟨g, j, none⟩ (cU y)) := (Fr.refl _ _).setCell _ _ (fun _ => rfl)
  have hg := h.c.lt g rfl
  have hF : ∀ k, k < W.heap.size → F k = F k := fun _ _ => rfl
  have hfp : ∀ k, k = g → k < W.heap.size → F k = 2 := fun k e _ => by rw [e]; exact h.lc g rfl
  obtain ⟨x1, x2⟩ := h.lab_x hf hF hfp (by decide)
  have h1 := (h.c.stored j (cU y)).1
  refine ⟨⟨x1, ?_, (lab_own h.e h.le hf hF hfp (by decide)).1, (lab_own h.s h.ls hf hF hfp (by decide)).1, (lab_own h.a h.la hf hF hfp (by decide)).1, h.l, h.lab_r hf hF hfp (by decide), h.lx, h.lc, h.le, h.ls, h.la, h.b0⟩, hf.below (by omega) (fun k hk => by omega)⟩
  rw [List.length_set, List.map_set]
  exact h1
/-- The graph that was laid. -/
theorem RgI.graph (h : RgI B W xb F cv ev sv av xs vs ts su wa) (hc : ∀ c ∈ xs, 0 ≤ c ∧ c ≤ 4294967295) (hl : ∀ t ∈ ts, t ≤ 1000000) : GrW W.heap.size W cv ev xs (ts.map fun t : Nat => [(t : Int)]) := by
  obtain ⟨ea, ec, rfl⟩ := own_form h.e
  refine ⟨own_told h.c, ⟨ea, ec, by rw [List.length_map, ← h.l], by rw [List.length_map, ← h.l]; exact own_cap h.e, own_capmax h.e, fun hp => ?_⟩, hc, fun l hlm x hx => ?_⟩
  · rw [List.length_map, ← h.l] at hp
    rcases h.e.2 with ⟨h1, h2⟩ | ⟨g, cap, cur, h1, h2, h3, _⟩
    · omega
    · cases h1
      refine ⟨g, 0, rfl, (Array.getElem?_eq_some_iff.1 h3).1, fun j l hj => ?_⟩
      rw [List.getElem?_map, Option.map_eq_some_iff] at hj
      obtain ⟨t, ht, rfl⟩ := hj
      have hjl := (List.getElem?_eq_some_iff.1 ht).1
      rw [← h.l] at hjl
      have hv : vs[j]? = some vs[j] := List.getElem?_eq_getElem hjl
      obtain ⟨b, h4, h5, _⟩ := h.r j _ t hv ht
      refine ⟨vs[j], ?_, ?_⟩
      · rw [Nat.zero_add, h.e.cellAt j (by omega)]
        simp [hv]
      · rw [h4]
        refine ⟨some ⟨b, 0, none⟩, 1, rfl, Nat.le_refl _, by omega, fun _ => ⟨b, 0, rfl, (Array.getElem?_eq_some_iff.1 h5).1, fun k z hz => ?_⟩⟩
        rw [cell_of_row _ _ _ _ _ _ h5]
        match k, hz with
        | 0, hz => simp at hz; subst hz; rfl
        | k + 1, hz => simp at hz
  · obtain ⟨t, ht, rfl⟩ := List.mem_map.1 hlm
    simp at hx
    subst hx
    have := hl t ht
    unfold I64b
    omega
end
end Go.Proofs.Ytjmhlmohennknab
