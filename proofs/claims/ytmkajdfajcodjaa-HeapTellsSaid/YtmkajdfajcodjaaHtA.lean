/-
  Graphs of a heap: plainly; told in memory; while one is laid.
-/
import Derived.Test.YtmkajdfajcodjaaHsI
namespace Go.Proofs.Ytmkajdfajcodjaa
open Go Go.ChangeShapes Go.WideShapes Go.ChangeAt Go.RowKit

/-- The wholes, in places' order. -/
def wls (A : Ar) (L : HL) : List Int := (allA A).filter fun h => match fnd L h with | some o => decide (o.outer = 0) | none => false
/-- What a whole and its inners hold. -/
def lksW (L : HL) (o : Ob) : List Lk := o.links ++ o.inners.flatMap (linksOf L)
/-- The edge of a link. -/
def edg1 (L : HL) (W : List Int) (l : Lk) : List Nat := if l.kind = 1 then match whl L l.h with | some x => [W.idxOf x.h] | none => [] else []
def edgs (L : HL) (W : List Int) (P : List Lk) : List Nat := P.flatMap (edg1 L W)
theorem edgs_take {L : HL} {W : List Int} {P : List Lk} {j : Nat} {l : Lk} (h : P[j]? = some l) : edgs L W (P.take (j + 1)) = edgs L W (P.take j) ++ edg1 L W l := by
  unfold edgs
  rw [List.take_add_one, h, List.flatMap_append]
  simp
def cntH (L : HL) (h : Int) : Int := match fnd L h with | some o => o.count | none => 0
def lstH (L : HL) (W : List Int) (h : Int) : List Nat := match fnd L h with | some o => edgs L W (lksW L o) | none => []

abbrev TI : TypeId := 3
abbrev TU32 : TypeId := 22
abbrev TSI : TypeId := 57
abbrev TGr : TypeId := 42
abbrev nI (k : Nat) : Value := .int .i64 (k : Int)
abbrev cU (x : Int) : Value := .int .u32 x
set_option maxRecDepth 100000 in
theorem infoI : (Try.prog.info? TI).map (fun i => (i.zero, i.size, i.bytes)) = some (some (.int .i64 0), 1, 8) := by kernel_rfl
set_option maxRecDepth 100000 in
theorem infoU32 : (Try.prog.info? TU32).map (fun i => (i.zero, i.size, i.bytes)) = some (some (.int .u32 0), 1, 4) := by kernel_rfl
set_option maxRecDepth 100000 in
theorem infoSI : (Try.prog.info? TSI).map (fun i => (i.zero, i.size, i.bytes)) = some (some (.slice none 0 0), 1, 24) := by kernel_rfl
set_option maxRecDepth 100000 in
theorem infoUU : (Try.prog.info? TU).map (fun i => (i.zero, i.size, i.bytes)) = some (some (.int .u64 0), 1, 8) := by kernel_rfl
theorem info_split {e : TypeId} {z : Option Value} {k b : Nat} (h : (Try.prog.info? e).map (fun i => (i.zero, i.size, i.bytes)) = some (z, k, b)) : ∃ i, Try.prog.info? e = some i ∧ i.zero = z ∧ i.size = k ∧ i.bytes = b := by
  cases hi : Try.prog.info? e with
  | none => rw [hi] at h; cases h
  | some i =>
    rw [hi] at h
    simp at h
    exact ⟨i, rfl, h.1, h.2.1, h.2.2⟩
/-- An append of one cell. -/
theorem run_push1 {w : World} (t ty T : TypeId) {z : Value} {bts : Nat} (hu : Try.prog.underlying t = some (.slice T)) (hi : (Try.prog.info? T).map (fun i => (i.zero, i.size, i.bytes)) = some (some z, 1, bts)) (hz : z.cells.size = 1) (hb2 : bts ≤ 1000) (B : Nat) (v : Value) (xs : List Value) (y : Value) (hown : w.ownsRow B T 1 v xs.length xs) (g c : Nat) (hc : w.cell? ⟨g, 0, none⟩ = some y) (hy : y.oneCell' = true) (hl : xs.length ≤ 1000000) (hB : B ≤ w.heap.size) :
    ∃ v' w', (Builtin.append_ #[t, t] ty #[v, .slice (some ⟨g, 0, none⟩) 1 c]).run Try.prog w = .ok v' w' ∧ w'.ownsRow B T 1 v' (xs ++ [y]).length (xs ++ [y]) ∧ w.grownBy w' v.ownBlock ∧ (v'.ownBlock = v.ownBlock ∨ v'.ownBlock = some w.heap.size) := by
  obtain ⟨i, h1, h2, h3, h4⟩ := info_split hi
  have hml : (9223372036854775807 : Nat) = maxLen := rfl
  obtain ⟨v', w', r1, r2, r3, _, r5⟩ := run_append_own_at (P := Try.prog) w B t ty T i z 1 bts hu h1 h2 h3 h4 hz (by decide) v _ xs hown ⟨g, 0, none⟩ 1 c [y] rfl (fun j u hu => by
    cases j with
    | zero => simp at hu; subst hu; simpa [Addr.add] using hc
    | succ j => simp at hu) (by simpa using hy) (by omega) (by
      have : (xs.length + 1) * bts ≤ 1000001 * 1000 := Nat.mul_le_mul (by omega) hb2
      omega) hB
  exact ⟨v', w', r1, by rw [List.length_append]; exact r2, r3, r5⟩
/-- A row of numbers: told, below B. -/
structure Tl {α : Type} (f : α → Value) (B : Nat) (W : World) (v : Value) (xs : List α) : Prop where
  ex : ∃ a c, v = .slice a xs.length c ∧ xs.length ≤ c ∧ c ≤ 9223372036854775807 ∧ (0 < xs.length → ∃ b o, a = some ⟨b, o, none⟩ ∧ b < B ∧ ∀ j x, xs[j]? = some x → W.cell? ⟨b, o + j, none⟩ = some (f x))
section
variable {α : Type} {f : α → Value} {B B' : Nat} {w w' : World} {v : Value} {xs : List α}
theorem Tl.below (h : Tl f B w v xs) (hB : Below B w w') : Tl f B w' v xs := by
  obtain ⟨a, c, h1, h2, h3, h4⟩ := h.ex
  refine ⟨a, c, h1, h2, h3, fun hl => ?_⟩
  obtain ⟨b, o, h5, h6, h7⟩ := h4 hl
  exact ⟨b, o, h5, h6, fun j x hx => (World.cell?_of_block (w := w) (w' := w') (a := ⟨b, o + j, none⟩) (hB.block b h6)).trans (h7 j x hx)⟩
theorem Tl.up (h : Tl f B w v xs) (hB : B ≤ B') : Tl f B' w v xs := by
  obtain ⟨a, c, h1, h2, h3, h4⟩ := h.ex
  refine ⟨a, c, h1, h2, h3, fun hl => ?_⟩
  obtain ⟨b, o, h5, h6, h7⟩ := h4 hl
  exact ⟨b, o, h5, by omega, h7⟩
theorem Tl.nil (f : α → Value) (B : Nat) (w : World) : Tl f B w (.slice none 0 0) ([] : List α) := ⟨none, 0, rfl, by simp, by omega, fun h => by simp at h⟩
/-- A row of one's own is told. -/
theorem tl_own {B0 T : Nat} {n : Nat} (h : w.ownsRow B0 T 1 v n (xs.map f)) : Tl f w.heap.size w v xs := by
  have hn : n = xs.length := by have := h.1; simp at this; omega
  subst hn
  obtain ⟨a, k, rfl⟩ := own_form h
  refine ⟨a, k, rfl, own_cap h, own_capmax h, fun hl => ?_⟩
  rcases h.2 with ⟨h1, h2⟩ | ⟨g, cap, cur, h1, h2, h3, _⟩
  · omega
  · cases h1
    refine ⟨g, 0, rfl, (Array.getElem?_eq_some_iff.1 h3).1, fun j x hx => ?_⟩
    have hj := (List.getElem?_eq_some_iff.1 hx).1
    rw [Nat.zero_add, h.cellAt j (by omega)]
    simp [hx]
end
/-- A graph that is told: below B. -/
structure GrT (B : Nat) (W : World) (cv ev : Value) (cs : List Int) (es : List (List Nat)) : Prop where
  c : Tl cU B W cv cs
  e : ∃ a c, ev = .slice a es.length c ∧ es.length ≤ c ∧ c ≤ 9223372036854775807 ∧ (0 < es.length → ∃ b o, a = some ⟨b, o, none⟩ ∧ b < B ∧ ∀ (j : Nat) l, es[j]? = some l → ∃ v, W.cell? ⟨b, o + j, none⟩ = some v ∧ Tl nI B W v l)
theorem GrT.below {B : Nat} {w w' : World} {cv ev : Value} {cs : List Int} {es : List (List Nat)} (h : GrT B w cv ev cs es) (hB : Below B w w') : GrT B w' cv ev cs es := by
  obtain ⟨a, c, h1, h2, h3, h4⟩ := h.e
  refine ⟨h.c.below hB, ⟨a, c, h1, h2, h3, fun hl => ?_⟩⟩
  obtain ⟨b, o, h5, h6, h7⟩ := h4 hl
  refine ⟨b, o, h5, h6, fun j l hx => ?_⟩
  obtain ⟨v, h8, h9⟩ := h7 j l hx
  exact ⟨v, (World.cell?_of_block (w := w) (w' := w') (a := ⟨b, o + j, none⟩) (hB.block b h6)).trans h8, h9.below hB⟩
theorem GrT.up {B B' : Nat} {w : World} {cv ev : Value} {cs : List Int} {es : List (List Nat)} (h : GrT B w cv ev cs es) (hB : B ≤ B') : GrT B' w cv ev cs es := by
  obtain ⟨a, c, h1, h2, h3, h4⟩ := h.e
  refine ⟨h.c.up hB, ⟨a, c, h1, h2, h3, fun hl => ?_⟩⟩
  obtain ⟨b, o, h5, h6, h7⟩ := h4 hl
  refine ⟨b, o, h5, by omega, fun j l hx => ?_⟩
  obtain ⟨v, h8, h9⟩ := h7 j l hx
  exact ⟨v, h8, h9.up hB⟩
/-- A list that is laid: its blocks' label is 6. -/
def Ed (W : World) (F : Nat → Nat) (v : Value) (xs : List Nat) : Prop :=
  ∃ a c, v = .slice a xs.length c ∧ xs.length ≤ c ∧ c ≤ 9223372036854775807 ∧ (0 < xs.length → ∃ b o, a = some ⟨b, o, none⟩ ∧ b < W.heap.size ∧ F b = 6 ∧ ∀ j x, xs[j]? = some x → W.cell? ⟨b, o + j, none⟩ = some (nI x))
theorem Ed.one {W : World} {F : Nat → Nat} {v : Value} {xs : List Nat} (h : Ed W F v xs) : v.oneCell' = true := by
  obtain ⟨a, c, rfl, _⟩ := h
  rfl
theorem Ed.tl {W : World} {F : Nat → Nat} {v : Value} {xs : List Nat} (h : Ed W F v xs) : Tl nI W.heap.size W v xs := by
  obtain ⟨a, c, h1, h2, h3, h4⟩ := h
  refine ⟨a, c, h1, h2, h3, fun hl => ?_⟩
  obtain ⟨b, o, h5, h6, _, h7⟩ := h4 hl
  exact ⟨b, o, h5, h6, h7⟩
theorem Ed.fr {W W' : World} {F F' : Nat → Nat} {v : Value} {xs : List Nat} {fp : Nat → Prop} (h : Ed W F v xs) (hf : Fr fp W W') (hF : ∀ k, k < W.heap.size → F' k = F k) (hfp : ∀ k, fp k → k < W.heap.size → F k ≠ 6) : Ed W' F' v xs := by
  obtain ⟨a, c, h1, h2, h3, h4⟩ := h
  refine ⟨a, c, h1, h2, h3, fun hl => ?_⟩
  obtain ⟨b, o, h5, h6, h7, h8⟩ := h4 hl
  exact ⟨b, o, h5, Nat.lt_of_lt_of_le h6 hf.size, by rw [hF b h6]; exact h7, fun j x hx => (World.cell?_of_block (w := W) (w' := W') (a := ⟨b, o + j, none⟩) (hf.block b h6 (fun e => hfp b e h6 h7))).trans (h8 j x hx)⟩
/-- While a graph is laid: its box, its counts, its lists. -/
structure GI (B : Nat) (W : World) (y : Nat) (F : Nat → Nat) (cv ev : Value) (cs : List Int) (vs : List Value) (ls : List (List Nat)) : Prop where
  hy : W.heap[y]? = some (.cells #[cv, ev] TGr (0, 0))
  c : W.ownsRow B TU32 1 cv cs.length (cs.map cU)
  e : W.ownsRow B TSI 1 ev vs.length vs
  l : vs.length = ls.length
  r : ∀ (i : Nat) v xs, vs[i]? = some v → ls[i]? = some xs → Ed W F v xs
  ly : F y = 1
  lc : ∀ k, cv.ownBlock = some k → F k = 2
  le : ∀ k, ev.ownBlock = some k → F k = 3
  b0 : B ≤ y
  b6 : ∀ k, k < B → F k ≠ 6
def nlb (F : Nat → Nat) (n p : Nat) (k : Nat) : Nat := if k < n then F k else p
theorem nlb_lt {F : Nat → Nat} {n p k : Nat} (h : k < n) : nlb F n p k = F k := if_pos h
theorem nlb_ge {F : Nat → Nat} {n p k : Nat} (h : n ≤ k) : nlb F n p k = p := if_neg (by omega)
section
variable {B : Nat} {W W' : World} {y : Nat} {F F' : Nat → Nat} {cv ev : Value} {cs : List Int} {vs : List Value} {ls : List (List Nat)}
theorem GI.y0 (h : GI B W y F cv ev cs vs ls) : W.cell? ⟨y, 0, none⟩ = some cv := by rw [cell_of_row _ _ 0 _ _ _ h.hy]; rfl
theorem GI.y1 (h : GI B W y F cv ev cs vs ls) : W.cell? ⟨y, 1, none⟩ = some ev := by rw [cell_of_row _ _ 1 _ _ _ h.hy]; rfl
theorem GI.fz (h : GI B W y F cv ev cs vs ls) (k : Nat) : W.frozen? ⟨y, k, none⟩ = false := frozen_of_row _ _ _ _ _ h.hy
theorem GI.lt (h : GI B W y F cv ev cs vs ls) : y < W.heap.size := (Array.getElem?_eq_some_iff.1 h.hy).1
theorem lab_row {T : TypeId} {v : Value} {n p m : Nat} {us : List Value} {fp : Nat → Prop} (h : W.ownsRow B T 1 v n us) (hl : ∀ k, v.ownBlock = some k → F k = p) (hf : Fr fp W W') (hF : ∀ k, k < W.heap.size → F' k = F k) (hfp : ∀ k, fp k → k < W.heap.size → F k = m) (hpm : p ≠ m) : W'.ownsRow B T 1 v n us ∧ ∀ k, v.ownBlock = some k → F' k = p :=
  ⟨hf.owns h (fun k hk e => by have h1 := hl k hk; have h2 := hfp k e (h.lt k hk).2; omega), fun k hk => by rw [hF k (h.lt k hk).2]; exact hl k hk⟩
/-- Nothing of it turns. -/
theorem GI.call (h : GI B W y F cv ev cs vs ls) (hf : Fr (fun k => W.heap.size ≤ k) W W') (hF : ∀ k, k < W.heap.size → F' k = F k) : GI B W' y F' cv ev cs vs ls := by
  have hn : ∀ k, k < W.heap.size → ¬ W.heap.size ≤ k := fun k hk => by omega
  exact ⟨(hf.block y h.lt (hn y h.lt)).trans h.hy, hf.owns h.c (fun k hk => hn k (h.c.lt k hk).2), hf.owns h.e (fun k hk => hn k (h.e.lt k hk).2), h.l, fun i v xs h1 h2 => (h.r i v xs h1 h2).fr hf hF (fun k hk hlt => absurd hk (hn k hlt)), by rw [hF y h.lt]; exact h.ly,
    fun k hk => by rw [hF k (h.c.lt k hk).2]; exact h.lc k hk, fun k hk => by rw [hF k (h.e.lt k hk).2]; exact h.le k hk, h.b0, fun k hk => by rw [hF k (by have := h.b0; have := h.lt; omega)]; exact h.b6 k hk⟩
/-- One more count. -/
theorem GI.growC (h : GI B W y F cv ev cs vs ls) {w' : World} {v' : Value} {o : Obj} {x : Int} (hr : w'.ownsRow B TU32 1 v' (cs ++ [x]).length ((cs ++ [x]).map cU)) (hg : (W.alloc o).grownBy w' cv.ownBlock) (hat : v'.ownBlock = cv.ownBlock ∨ v'.ownBlock = some (W.alloc o).heap.size) :
    w'.heap[y]? = some (.cells #[cv, ev] TGr (0, 0)) ∧ GI B (w'.setCell ⟨y, 0, none⟩ v') y (nlb F W.heap.size 2) v' ev (cs ++ [x]) vs ls ∧ Below B W (w'.setCell ⟨y, 0, none⟩ v') ∧
    ∀ v xs, Ed W F v xs → Ed (w'.setCell ⟨y, 0, none⟩ v') (nlb F W.heap.size 2) v xs := by
  have hf : Fr (fun k => cv.ownBlock = some k) W w' := ((Fr.refl _ _).alloc o).grown hg (fun k hk _ => hk)
  have hF : ∀ k, k < W.heap.size → nlb F W.heap.size 2 k = F k := fun k hk => nlb_lt hk
  have hfp : ∀ k, cv.ownBlock = some k → k < W.heap.size → F k = 2 := fun k hk _ => h.lc k hk
  have hb := h.lt
  have x1 : w'.heap[y]? = some (.cells #[cv, ev] TGr (0, 0)) := (hf.block y hb (fun e => by have h1 := hfp y e hb; have := h.ly; omega)).trans h.hy
  have x2 : nlb F W.heap.size 2 y = 1 := by rw [hF y hb]; exact h.ly
  obtain ⟨e1, e2⟩ := lab_row h.e h.le hf hF hfp (by decide)
  have lc' : ∀ k, v'.ownBlock = some k → nlb F W.heap.size 2 k = 2 := fun k hk => by
    rcases hat with e | e
    · rw [e] at hk; rw [nlb_lt (h.c.lt k hk).2]; exact h.lc k hk
    · rw [e] at hk; cases hk; exact nlb_ge (by simp)
  have hfs : Fr (fun b => b = y) w' (w'.setCell ⟨y, 0, none⟩ v') := (Fr.refl _ _).setCell _ _ (fun _ => rfl)
  have hfps : ∀ b, b = y → b < w'.heap.size → nlb F W.heap.size 2 b = 1 := fun b e _ => by rw [e]; exact x2
  have hFs : ∀ b, b < w'.heap.size → nlb F W.heap.size 2 b = nlb F W.heap.size 2 b := fun _ _ => rfl
  have hed : ∀ v xs, Ed W F v xs → Ed (w'.setCell ⟨y, 0, none⟩ v') (nlb F W.heap.size 2) v xs := fun v xs hv => (hv.fr hf hF (fun k hk hl => by have := hfp k hk hl; omega)).fr hfs hFs (fun k hk hl => by have := hfps k hk hl; omega)
  exact ⟨x1, ⟨by rw [heap_setCell_same _ _ _ _ _ _ x1]; rfl, (lab_row hr lc' hfs hFs hfps (by decide)).1, (lab_row e1 e2 hfs hFs hfps (by decide)).1, h.l, fun i v xs h1 h2 => hed v xs (h.r i v xs h1 h2), x2, lc', e2, h.b0, fun k hk => by rw [hF k (by have := h.b0; omega)]; exact h.b6 k hk⟩,
    (hf.below (by have := h.b0; omega) (fun k hk => (h.c.lt k hk).1)).trans (hfs.below (by have := h.b0; have := hf.size; omega) (fun k hk => by rw [hk]; exact h.b0)), hed⟩
/-- One more list. -/
theorem GI.growE (h : GI B W y F cv ev cs vs ls) {w' : World} {v' u : Value} {o : Obj} {xs : List Nat} (hu : Ed W F u xs) (hr : w'.ownsRow B TSI 1 v' (vs ++ [u]).length (vs ++ [u])) (hg : (W.alloc o).grownBy w' ev.ownBlock) (hat : v'.ownBlock = ev.ownBlock ∨ v'.ownBlock = some (W.alloc o).heap.size) :
    w'.heap[y]? = some (.cells #[cv, ev] TGr (0, 0)) ∧ GI B (w'.setCell ⟨y, 1, none⟩ v') y (nlb F W.heap.size 3) cv v' cs (vs ++ [u]) (ls ++ [xs]) ∧ Below B W (w'.setCell ⟨y, 1, none⟩ v') := by
  have hf : Fr (fun k => ev.ownBlock = some k) W w' := ((Fr.refl _ _).alloc o).grown hg (fun k hk _ => hk)
  have hF : ∀ k, k < W.heap.size → nlb F W.heap.size 3 k = F k := fun k hk => nlb_lt hk
  have hfp : ∀ k, ev.ownBlock = some k → k < W.heap.size → F k = 3 := fun k hk _ => h.le k hk
  have hb := h.lt
  have x1 : w'.heap[y]? = some (.cells #[cv, ev] TGr (0, 0)) := (hf.block y hb (fun e => by have h1 := hfp y e hb; have := h.ly; omega)).trans h.hy
  have x2 : nlb F W.heap.size 3 y = 1 := by rw [hF y hb]; exact h.ly
  obtain ⟨c1, c2⟩ := lab_row h.c h.lc hf hF hfp (by decide)
  have le' : ∀ k, v'.ownBlock = some k → nlb F W.heap.size 3 k = 3 := fun k hk => by
    rcases hat with e | e
    · rw [e] at hk; rw [nlb_lt (h.e.lt k hk).2]; exact h.le k hk
    · rw [e] at hk; cases hk; exact nlb_ge (by simp)
  have hfs : Fr (fun b => b = y) w' (w'.setCell ⟨y, 1, none⟩ v') := (Fr.refl _ _).setCell _ _ (fun _ => rfl)
  have hfps : ∀ b, b = y → b < w'.heap.size → nlb F W.heap.size 3 b = 1 := fun b e _ => by rw [e]; exact x2
  have hFs : ∀ b, b < w'.heap.size → nlb F W.heap.size 3 b = nlb F W.heap.size 3 b := fun _ _ => rfl
  have hed : ∀ v xs, Ed W F v xs → Ed (w'.setCell ⟨y, 1, none⟩ v') (nlb F W.heap.size 3) v xs := fun v xs hv => (hv.fr hf hF (fun k hk hl => by have := hfp k hk hl; omega)).fr hfs hFs (fun k hk hl => by have := hfps k hk hl; omega)
  refine ⟨x1, ⟨by rw [heap_setCell_same _ _ _ _ _ _ x1]; rfl, (lab_row c1 c2 hfs hFs hfps (by decide)).1, (lab_row hr le' hfs hFs hfps (by decide)).1, by rw [List.length_append, List.length_append, h.l]; rfl, fun i v zs h1 h2 => ?_, x2, c2, le', h.b0, fun k hk => by rw [hF k (by have := h.b0; omega)]; exact h.b6 k hk⟩,
    (hf.below (by have := h.b0; omega) (fun k hk => (h.e.lt k hk).1)).trans (hfs.below (by have := h.b0; have := hf.size; omega) (fun k hk => by rw [hk]; exact h.b0))⟩
  by_cases hi : i < vs.length
  · rw [List.getElem?_append_left hi] at h1
    rw [List.getElem?_append_left (by rw [← h.l]; exact hi)] at h2
    exact hed v zs (h.r i v zs h1 h2)
  · rw [List.getElem?_append_right (by omega)] at h1
    rw [List.getElem?_append_right (by rw [← h.l]; omega), ← h.l] at h2
    cases hd : i - vs.length with
    | zero =>
      rw [hd] at h1 h2
      simp at h1 h2
      subst h1 h2
      exact hed _ _ hu
    | succ k => rw [hd] at h1; simp at h1
/-- A block below turns. -/
theorem GI.low (h : GI B W y F cv ev cs vs ls) {g : Nat} (hf : Fr (fun b => b = g) W W') (hg : g < B) : GI B W' y F cv ev cs vs ls :=
  ⟨(hf.block y h.lt (by have := h.b0; omega)).trans h.hy, hf.owns h.c (fun k hk e => by have := (h.c.lt k hk).1; omega), hf.owns h.e (fun k hk e => by have := (h.e.lt k hk).1; omega), h.l, fun i v xs h1 h2 => (h.r i v xs h1 h2).fr hf (fun _ _ => rfl) (fun k e _ => by rw [e]; exact h.b6 g hg), h.ly, h.lc, h.le, h.b0, h.b6⟩
/-- The graph that was laid. -/
theorem GI.told (h : GI B W y F cv ev cs vs ls) : GrT W.heap.size W cv ev cs ls := by
  obtain ⟨ea, ec, rfl⟩ := own_form h.e
  refine ⟨tl_own h.c, ⟨ea, ec, by rw [h.l], by rw [← h.l]; exact own_cap h.e, own_capmax h.e, fun hp => ?_⟩⟩
  rw [← h.l] at hp
  rcases h.e.2 with ⟨h1, h2⟩ | ⟨g, cap, cur, h1, h2, h3, _⟩
  · omega
  · cases h1
    refine ⟨g, 0, rfl, (Array.getElem?_eq_some_iff.1 h3).1, fun j l hj => ?_⟩
    have hjl := (List.getElem?_eq_some_iff.1 hj).1
    rw [← h.l] at hjl
    have hv : vs[j]? = some vs[j] := List.getElem?_eq_getElem hjl
    refine ⟨vs[j], ?_, (h.r j _ l hv hj).tl⟩
    rw [Nat.zero_add, h.e.cellAt j (by omega)]
    simp [hv]
end
end Go.Proofs.Ytmkajdfajcodjaa
