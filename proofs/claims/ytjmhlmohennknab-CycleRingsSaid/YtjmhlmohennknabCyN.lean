/-
  A run in memory: its nodes, who waits, what was found.
-/
import Derived.Test.YtjmhlmohennknabCyQ
namespace Go.Proofs.Ytjmhlmohennknab
open Go Go.ChangeShapes Go.WideShapes Go.ChangeAt Go.RowKit

/-- A node's edges, in memory: below B, beside the run's own two blocks. -/
def EdW (B p q : Nat) (w : World) (v : Value) (xs : List Nat) : Prop :=
  ∃ a c, v = .slice a xs.length c ∧ xs.length ≤ c ∧ c ≤ 9223372036854775807 ∧ (0 < xs.length → ∃ b o, a = some ⟨b, o, none⟩ ∧ b < B ∧ b ≠ p ∧ b ≠ q ∧ ∀ j x, xs[j]? = some x → w.cell? ⟨b, o + j, none⟩ = some (nI x))
/-- A node's three cells. -/
def NdAt (B p q : Nat) (w : World) (cur : Array Value) (e : Nat → List Nat) (col : Nat → Nat) (held : Nat → Int) (i : Nat) : Prop :=
  cur[i * 3]? = some (nI (col i)) ∧ cur[i * 3 + 1]? = some (iv (held i)) ∧ ∃ ev, cur[i * 3 + 2]? = some ev ∧ EdW B p q w ev (e i)
structure NdW (w : World) (p q B0 B1 n : Nat) (e : Nat → List Nat) (col : Nat → Nat) (held : Nat → Int) (nv : Value) : Prop where
  nv : nv = .slice (some ⟨q, 0, none⟩) n n
  q0 : B0 ≤ q
  q1 : q < B1
  qp : q ≠ p
  at_ : ∃ cur, w.heap[q]? = some (.cells cur TNode (0, 0)) ∧ ∀ i, i < n → NdAt B1 p q w cur e col held i
section
variable {w w' : World} {p q B0 B1 n : Nat} {e : Nat → List Nat} {col : Nat → Nat} {held : Nat → Int} {nv : Value} {fp : Nat → Prop}
theorem EdW.fr {v : Value} {xs : List Nat} (h : EdW B1 p q w v xs) (hf : Fr fp w w') (hd : ∀ k, k < B1 → k ≠ p → k ≠ q → ¬ fp k) (hB : B1 ≤ w.heap.size) : EdW B1 p q w' v xs := by
  obtain ⟨a, c, h1, h2, h3, h4⟩ := h
  refine ⟨a, c, h1, h2, h3, fun hl => ?_⟩
  obtain ⟨b, o, h5, h6, h7, h8, h9⟩ := h4 hl
  exact ⟨b, o, h5, h6, h7, h8, fun j x hx => (World.cell?_of_block (w := w) (w' := w') (a := ⟨b, o + j, none⟩) (hf.block b (by omega) (hd b h6 h7 h8))).trans (h9 j x hx)⟩
theorem NdW.lt (h : NdW w p q B0 B1 n e col held nv) : q < w.heap.size := by
  obtain ⟨cur, h1, _⟩ := h.at_
  exact (Array.getElem?_eq_some_iff.1 h1).1
theorem NdW.fr (h : NdW w p q B0 B1 n e col held nv) (hf : Fr fp w w') (hd : ∀ k, k < B1 → k ≠ p → ¬ fp k) (hB : B1 ≤ w.heap.size) : NdW w' p q B0 B1 n e col held nv := by
  obtain ⟨cur, h1, h2⟩ := h.at_
  refine ⟨h.nv, h.q0, h.q1, h.qp, cur, ?_, fun i hi => ?_⟩
  · rw [hf.block q h.lt (hd q h.q1 h.qp)]; exact h1
  · obtain ⟨a, b, ev, c, d⟩ := h2 i hi
    exact ⟨a, b, ev, c, d.fr hf (fun k k1 k2 _ => hd k k1 k2) hB⟩
theorem NdW.c0 (h : NdW w p q B0 B1 n e col held nv) {i : Nat} (hi : i < n) : w.cell? ⟨q, i * 3, none⟩ = some (nI (col i)) := by
  obtain ⟨cur, h1, h2⟩ := h.at_
  rw [cell_of_row w q _ _ _ _ h1]; exact (h2 i hi).1
theorem NdW.c1 (h : NdW w p q B0 B1 n e col held nv) {i : Nat} (hi : i < n) : w.cell? ⟨q, i * 3 + 1, none⟩ = some (iv (held i)) := by
  obtain ⟨cur, h1, h2⟩ := h.at_
  rw [cell_of_row w q _ _ _ _ h1]; exact (h2 i hi).2.1
theorem NdW.c2 (h : NdW w p q B0 B1 n e col held nv) {i : Nat} (hi : i < n) : ∃ ev, w.cell? ⟨q, i * 3 + 2, none⟩ = some ev ∧ EdW B1 p q w ev (e i) := by
  obtain ⟨cur, h1, h2⟩ := h.at_
  obtain ⟨_, _, ev, h3, h4⟩ := h2 i hi
  exact ⟨ev, by rw [cell_of_row w q _ _ _ _ h1]; exact h3, h4⟩
theorem NdW.fz (h : NdW w p q B0 B1 n e col held nv) (k : Nat) : w.frozen? ⟨q, k, none⟩ = false := by
  obtain ⟨cur, h1, _⟩ := h.at_
  exact frozen_of_row w q k _ _ h1
theorem NdW.set (h : NdW w p q B0 B1 n e col held nv) (hB : B1 ≤ w.heap.size) {i : Nat} (hi : i < n) (k : Nat) (hk : k < 3) (v : Value) (col' : Nat → Nat) (held' : Nat → Int) (e' : Nat → List Nat)
    (ho : ∀ j, j ≠ i → col' j = col j ∧ held' j = held j ∧ e' j = e j) (h0 : if k = 0 then v = nI (col' i) else col' i = col i) (h1 : if k = 1 then v = iv (held' i) else held' i = held i) (h2 : if k = 2 then EdW B1 p q (w.setCell ⟨q, i * 3 + k, none⟩ v) v (e' i) else e' i = e i) :
    NdW (w.setCell ⟨q, i * 3 + k, none⟩ v) p q B0 B1 n e' col' held' nv := by
  have hfr : Fr (fun b => b = q) w (w.setCell ⟨q, i * 3 + k, none⟩ v) := (Fr.refl _ _).setCell _ _ (fun _ => rfl)
  obtain ⟨cur, h3, h4⟩ := h.at_
  refine ⟨h.nv, h.q0, h.q1, h.qp, cur.setIfInBounds (i * 3 + k) v, heap_setCell_same _ _ _ _ _ _ h3, fun j hj => ?_⟩
  have h5 := h4 j hj
  have hed : ∀ {v x}, EdW B1 p q w v x → EdW B1 p q (w.setCell ⟨q, i * 3 + k, none⟩ _) v x := fun h => h.fr hfr (fun k k1 k2 k3 => k3) hB
  obtain ⟨a, b, ev, c, d⟩ := h5
  have hlt : i * 3 + k < cur.size := by
    obtain ⟨_, _, _, c, _⟩ := h4 i hi
    have := (Array.getElem?_eq_some_iff.1 c).1
    omega
  by_cases hji : j = i
  · subst hji
    refine ⟨?_, ?_, ?_⟩
    · by_cases hk0 : k = 0
      · subst hk0
        rw [if_pos rfl] at h0
        rw [Nat.add_zero] at hlt ⊢
        rw [Array.getElem?_setIfInBounds_self_of_lt hlt, h0]
      · rw [if_neg hk0] at h0
        rw [Array.getElem?_setIfInBounds_ne (by omega), h0]
        exact a
    · by_cases hk0 : k = 1
      · subst hk0
        rw [if_pos rfl] at h1
        rw [Array.getElem?_setIfInBounds_self_of_lt hlt, h1]
      · rw [if_neg hk0] at h1
        rw [Array.getElem?_setIfInBounds_ne (by omega), h1]
        exact b
    · by_cases hk0 : k = 2
      · subst hk0
        rw [if_pos rfl] at h2
        exact ⟨v, by rw [Array.getElem?_setIfInBounds_self_of_lt hlt], h2⟩
      · rw [if_neg hk0] at h2
        rw [h2]
        exact ⟨ev, by rw [Array.getElem?_setIfInBounds_ne (by omega)]; exact c, hed d⟩
  · obtain ⟨o1, o2, o3⟩ := ho j hji
    unfold NdAt
    rw [o1, o2, o3]
    exact ⟨by rw [Array.getElem?_setIfInBounds_ne (by omega)]; exact a, by rw [Array.getElem?_setIfInBounds_ne (by omega)]; exact b, ev, by rw [Array.getElem?_setIfInBounds_ne (by omega)]; exact c, hed d⟩
theorem NdW.setCol (h : NdW w p q B0 B1 n e col held nv) (hB : B1 ≤ w.heap.size) {i : Nat} (hi : i < n) (c : Nat) : NdW (w.setCell ⟨q, i * 3, none⟩ (nI c)) p q B0 B1 n e (upd col i c) held nv :=
  h.set hB hi 0 (by omega) (nI c) (upd col i c) held e (fun j hj => ⟨upd_other hj, rfl, rfl⟩) (by rw [if_pos rfl, upd_same]) (by rw [if_neg (by omega)]) (by rw [if_neg (by omega)])
theorem NdW.setHeld (h : NdW w p q B0 B1 n e col held nv) (hB : B1 ≤ w.heap.size) {i : Nat} (hi : i < n) (c : Int) : NdW (w.setCell ⟨q, i * 3 + 1, none⟩ (iv c)) p q B0 B1 n e col (upd held i c) nv :=
  h.set hB hi 1 (by omega) (iv c) col (upd held i c) e (fun j hj => ⟨rfl, upd_other hj, rfl⟩) (by rw [if_neg (by omega)]) (by rw [if_pos rfl, upd_same]) (by rw [if_neg (by omega)])
end
/-- A run in memory. -/
structure RunW (w : World) (p B0 B1 : Nat) (g : Gr) (s : CyS) (nv wv fv : Value) : Prop where
  hp : w.heap[p]? = some (.cells #[nv, .int .i64 s.sw, .int .i64 s.next, wv, .int .i64 s.edge, fv] TRun (0, 0))
  p0 : B0 ≤ p
  p1 : p < B1
  b1 : B1 ≤ w.heap.size
  nd : s.sw < 3 → ∃ q, NdW w p q B0 B1 g.n g.e s.col s.held nv
  wq : s.sw < 3 → QI w wv s.q
  wb : s.sw < 3 → ∀ k, wv.ownBlock = some k → B1 ≤ k
  fo : OwI B1 w fv s.found
  df : s.sw < 3 → ∀ k, wv.ownBlock = some k → fv.ownBlock ≠ some k
section
variable {w w' : World} {p B0 B1 : Nat} {g : Gr} {s : CyS} {nv wv fv : Value} {fp : Nat → Prop}
theorem RunW.lt (h : RunW w p B0 B1 g s nv wv fv) : p < w.heap.size := (Array.getElem?_eq_some_iff.1 h.hp).1
theorem RunW.c0 (h : RunW w p B0 B1 g s nv wv fv) : w.cell? ⟨p, 0, none⟩ = some nv := by rw [cell_of_row w p 0 _ _ _ h.hp]; rfl
theorem RunW.c1 (h : RunW w p B0 B1 g s nv wv fv) : w.cell? ⟨p, 1, none⟩ = some (nI s.sw) := by rw [cell_of_row w p 1 _ _ _ h.hp]; rfl
theorem RunW.c2 (h : RunW w p B0 B1 g s nv wv fv) : w.cell? ⟨p, 2, none⟩ = some (nI s.next) := by rw [cell_of_row w p 2 _ _ _ h.hp]; rfl
theorem RunW.c3 (h : RunW w p B0 B1 g s nv wv fv) : w.cell? ⟨p, 3, none⟩ = some wv := by rw [cell_of_row w p 3 _ _ _ h.hp]; rfl
theorem RunW.c4 (h : RunW w p B0 B1 g s nv wv fv) : w.cell? ⟨p, 4, none⟩ = some (nI s.edge) := by rw [cell_of_row w p 4 _ _ _ h.hp]; rfl
theorem RunW.c5 (h : RunW w p B0 B1 g s nv wv fv) : w.cell? ⟨p, 5, none⟩ = some fv := by rw [cell_of_row w p 5 _ _ _ h.hp]; rfl
theorem RunW.fz (h : RunW w p B0 B1 g s nv wv fv) (k : Nat) : w.frozen? ⟨p, k, none⟩ = false := frozen_of_row w p k _ _ h.hp
/-- Only new blocks, and those of nobody here, have turned. -/
theorem RunW.fr (h : RunW w p B0 B1 g s nv wv fv) (hf : Fr fp w w') (h0 : ∀ k, k < B1 → ¬ fp k) (h1 : ∀ k, wv.ownBlock = some k → ¬ fp k) (h2 : ∀ k, fv.ownBlock = some k → ¬ fp k) : RunW w' p B0 B1 g s nv wv fv :=
  ⟨by rw [hf.block p h.lt (h0 p h.p1)]; exact h.hp, h.p0, h.p1, Nat.le_trans h.b1 hf.size, fun hs => by
    obtain ⟨q, hq⟩ := h.nd hs
    exact ⟨q, hq.fr hf (fun k hk _ => h0 k hk) h.b1⟩, fun hs => (h.wq hs).fr hf h1, h.wb, h.fo.fr hf h2, h.df⟩
theorem RunW.no (h : RunW w p B0 B1 g s nv wv fv) (hf : Fr (fun _ => False) w w') : RunW w' p B0 B1 g s nv wv fv := h.fr hf (fun _ _ e => e) (fun _ _ e => e) (fun _ _ e => e)
/-- A cell of the run's own block is another one: numbers. -/
theorem RunW.setP (h : RunW w p B0 B1 g s nv wv fv) (k : Nat) (v : Value) (s' : CyS) (wv' fv' : Value) (ha : (#[nv, .int .i64 s.sw, .int .i64 s.next, wv, .int .i64 s.edge, fv] : Array Value).setIfInBounds k v = #[nv, .int .i64 s'.sw, .int .i64 s'.next, wv', .int .i64 s'.edge, fv'])
    (h1 : s'.sw < 3 → s.sw < 3 ∧ s'.col = s.col ∧ s'.held = s.held) (h2 : s'.sw < 3 → QI w wv' s'.q ∧ ∀ k, wv'.ownBlock = some k → B1 ≤ k) (h3 : OwI B1 w fv' s'.found) (h4 : s'.sw < 3 → ∀ k, wv'.ownBlock = some k → fv'.ownBlock ≠ some k) :
    RunW (w.setCell ⟨p, k, none⟩ v) p B0 B1 g s' nv wv' fv' ∧ Below B0 w (w.setCell ⟨p, k, none⟩ v) := by
  have hfr : Fr (fun b => b = p) w (w.setCell ⟨p, k, none⟩ v) := (Fr.refl _ _).setCell _ _ (fun _ => rfl)
  have hp1 := h.p1
  refine ⟨⟨?_, h.p0, h.p1, Nat.le_trans h.b1 hfr.size, fun hs => ?_, fun hs => ?_, fun hs => (h2 hs).2, ?_, h4⟩, hfr.below (by have := h.p0; have := h.lt; omega) (fun k hk => by rw [hk]; exact h.p0)⟩
  · rw [heap_setCell_same _ _ _ _ _ _ h.hp, ha]
  · obtain ⟨k1, k2, k3⟩ := h1 hs
    obtain ⟨q, hq⟩ := h.nd k1
    rw [k2, k3]
    exact ⟨q, hq.fr hfr (fun k _ hk => hk) h.b1⟩
  · obtain ⟨k1, k2⟩ := h2 hs
    exact k1.fr hfr (fun k hk e => by have := k2 k hk; omega)
  · exact h3.fr hfr (fun k hk e => by have := (World.ownsRow.lt h3 k hk).1; omega)
end
/-- A run in memory, its rows unsaid. -/
def Rn (w : World) (p B0 B1 : Nat) (g : Gr) (s : CyS) : Prop := ∃ nv wv fv, RunW w p B0 B1 g s nv wv fv
end Go.Proofs.Ytjmhlmohennknab
