/-
  A graph whose counts a law lessens, and whose edges it appends, list by list.
-/
import Derived.Test.YtjmhlmohennknabCyLf
namespace Go.Proofs.Ytjmhlmohennknab
open Go Go.ChangeShapes Go.WideShapes Go.ChangeAt Go.RowKit

abbrev TSI : TypeId := 26
set_option maxRecDepth 100000 in
theorem infoSI : (Try.prog.info? TSI).map (fun i => (i.zero, i.size, i.bytes)) = some (some (.slice none 0 0), 1, 24) := by kernel_rfl
/-- append of one list. -/
theorem wpList_pushL {w : World} {ops : Array Oper} {rest : List Oper} {o : Oper} {a : Act} {Q : Exit → Act → World → Prop} (hg : o.guard = none) (s x : Operand)
    (ho : o.op = Op.call { callee := Callee.builtin Builtin.append, args := #[s, x], argTypes := #[23, 23] }) (B : Nat) (v : Value) (xs : List Value) (y : Value) (hs : a.eval s = v) (hown : w.ownsRow B TSI 1 v xs.length xs) (g c : Nat) (hx : a.eval x = .slice (some ⟨g, 0, none⟩) 1 c)
    (hc : w.cell? ⟨g, 0, none⟩ = some y) (hy : y.oneCell' = true) (hl : xs.length ≤ 1000000) (hB : B ≤ w.heap.size)
    (hK : ∀ v' w', w'.ownsRow B TSI 1 v' (xs ++ [y]).length (xs ++ [y]) → w.grownBy w' v.ownBlock → (v'.ownBlock = v.ownBlock ∨ v'.ownBlock = some w.heap.size) → wpList Try.prog ops Q rest (a.put o.dst v') w') : wpList Try.prog ops Q (o :: rest) a w := by
  obtain ⟨i, h1, h2, h3, h4⟩ := info_split infoSI
  have hml : (9223372036854775807 : Nat) = maxLen := rfl
  refine wpList_append_own_at _ hg s x 23 ho B TSI i (.slice none 0 0) 1 24 Try.underlying23 h1 h2 h3 h4 rfl (by decide) v _ _ hs hown ⟨g, 0, none⟩ 1 c [y] hx rfl (fun j u hu => ?_) (by simpa using hy) (by omega) (by omega) hB ?_
  · cases j with
    | zero => simp at hu; subst hu; simpa [Addr.add] using hc
    | succ j => simp at hu
  · intro v' w' k1 k2 _ k4
    refine hK v' w' ?_ k2 k4
    rw [List.length_append]
    exact k1
/-- A list's row: told, above B, beside a block. -/
def EdR (B : Nat) (W : World) (ob : Option Nat) (v : Value) (xs : List Nat) : Prop :=
  ∃ a c, v = .slice a xs.length c ∧ xs.length ≤ c ∧ c ≤ 9223372036854775807 ∧ (0 < xs.length → ∃ b o, a = some ⟨b, o, none⟩ ∧ B ≤ b ∧ b < W.heap.size ∧ ob ≠ some b ∧ ∀ j x, xs[j]? = some x → W.cell? ⟨b, o + j, none⟩ = some (nI x))
theorem EdR.one {B : Nat} {W : World} {ob : Option Nat} {v : Value} {xs : List Nat} (h : EdR B W ob v xs) : v.oneCell' = true := by
  obtain ⟨a, c, rfl, _⟩ := h
  rfl
theorem EdR.fr {B : Nat} {W W' : World} {ob ob' : Option Nat} {v : Value} {xs : List Nat} {fp : Nat → Prop} (h : EdR B W ob v xs) (hf : Fr fp W W') (hd : ∀ k, B ≤ k → k < W.heap.size → ob ≠ some k → ¬ fp k) (ho : ∀ k, k < W.heap.size → ob ≠ some k → ob' ≠ some k) : EdR B W' ob' v xs := by
  obtain ⟨a, c, h1, h2, h3, h4⟩ := h
  refine ⟨a, c, h1, h2, h3, fun hl => ?_⟩
  obtain ⟨b, o, h5, h6, h7, h8, h9⟩ := h4 hl
  exact ⟨b, o, h5, h6, Nat.lt_of_lt_of_le h7 hf.size, ho b h7 h8, fun j x hx => (World.cell?_of_block (w := W) (w' := W') (a := ⟨b, o + j, none⟩) (hf.block b h7 (hd b h6 h7 h8))).trans (h9 j x hx)⟩
theorem EdR.tl {B : Nat} {W : World} {ob : Option Nat} {v : Value} {xs : List Nat} (h : EdR B W ob v xs) : Tl nI W.heap.size W v xs := by
  obtain ⟨a, c, h1, h2, h3, h4⟩ := h
  refine ⟨a, c, h1, h2, h3, fun hl => ?_⟩
  obtain ⟨b, o, h5, _, h7, _, h9⟩ := h4 hl
  exact ⟨b, o, h5, h7, h9⟩
/-- While it is laid: the box, its counts (a row that lay before), its lists. -/
structure RsI (w14 W : World) (yb cb n : Nat) (cc : Nat) (yev : Value) (cy : Nat → Int) (vs : List Value) (ls : List (List Nat)) : Prop where
  y : W.heap[yb]? = some (.cells #[.slice (some ⟨cb, 0, none⟩) n cc, yev] TGr (0, 0))
  c : W.ownsRow 0 TU32 1 (.slice (some ⟨cb, 0, none⟩) n cc) n ((fL n cy).map cU)
  e : W.ownsRow w14.heap.size TSI 1 yev vs.length vs
  l : vs.length = ls.length
  r : ∀ (i : Nat) v xs, vs[i]? = some v → ls[i]? = some xs → EdR w14.heap.size W yev.ownBlock v xs
  fr : Fr (fun b => b = yb ∨ b = cb) w14 W
  yl : yb < w14.heap.size
  cl : cb < w14.heap.size
  ne : yb ≠ cb
section
variable {w14 W W' : World} {yb cb n cc : Nat} {yev : Value} {cy cy' : Nat → Int} {vs : List Value} {ls : List (List Nat)}
theorem RsI.y0 (h : RsI w14 W yb cb n cc yev cy vs ls) : W.cell? ⟨yb, 0, none⟩ = some (.slice (some ⟨cb, 0, none⟩) n cc) := by rw [cell_of_row _ _ 0 _ _ _ h.y]; rfl
theorem RsI.y1 (h : RsI w14 W yb cb n cc yev cy vs ls) : W.cell? ⟨yb, 1, none⟩ = some yev := by rw [cell_of_row _ _ 1 _ _ _ h.y]; rfl
theorem RsI.congr (h : RsI w14 W yb cb n cc yev cy vs ls) (hc : ∀ i, i < n → cy i = cy' i) : RsI w14 W yb cb n cc yev cy' vs ls :=
  ⟨h.y, by rw [← fL_congr hc]; exact h.c, h.e, h.l, h.r, h.fr, h.yl, h.cl, h.ne⟩
theorem RsI.cell (h : RsI w14 W yb cb n cc yev cy vs ls) {i : Nat} (hi : i < n) : W.cell? ⟨cb, i, none⟩ = some (cU (cy i)) := by
  have := h.c.cellAt i (by simpa using hi)
  rw [this]
  simp [fL_at hi]
/-- A call, in which nothing of this turns. -/
theorem RsI.call (h : RsI w14 W yb cb n cc yev cy vs ls) (hB : Below W.heap.size W W') : RsI w14 W' yb cb n cc yev cy vs ls := by
  have hf : Fr (fun _ => False) W W' := Fr.of_below hB
  exact ⟨by rw [hB.block _ (Array.getElem?_eq_some_iff.1 h.y).1]; exact h.y, hf.owns h.c (fun _ _ e => e), hf.owns h.e (fun _ _ e => e), h.l, fun i v xs h1 h2 => (h.r i v xs h1 h2).fr hf (fun _ _ _ _ e => e) (fun _ _ e => e), h.fr.trans hf (fun _ e _ => e.elim), h.yl, h.cl, h.ne⟩
theorem RsI.less (h : RsI w14 W yb cb n cc yev cy vs ls) (j : Nat) (u : Int) : RsI w14 (W.setCell ⟨cb, j, none⟩ (cU u)) yb cb n cc yev (upd cy j u) vs ls := by
  have hfr : Fr (fun b => b = cb) W (W.setCell ⟨cb, j, none⟩ (cU u)) := (Fr.refl _ _).setCell _ _ (fun _ => rfl)
  have hcl := h.cl
  refine ⟨?_, ?_, hfr.owns h.e (fun k hk e => by have := (h.e.lt k hk).1; omega), h.l, fun i v xs h1 h2 => (h.r i v xs h1 h2).fr hfr (fun k k1 _ _ e => by omega) (fun _ _ e => e), h.fr.trans hfr (fun k hk _ => .inr hk), h.yl, h.cl, h.ne⟩
  · rw [hfr.block _ (Array.getElem?_eq_some_iff.1 h.y).1 h.ne]; exact h.y
  · have h1 := (h.c.stored j (cU u)).1
    rw [← fL_set, List.map_set]
    exact h1
theorem RsI.grow (h : RsI w14 W yb cb n cc yev cy vs ls) {w' : World} {o : Obj} (hg : (W.alloc o).grownBy w' yev.ownBlock) : w'.heap[yb]? = some (.cells #[.slice (some ⟨cb, 0, none⟩) n cc, yev] TGr (0, 0)) := by
  have hfr : Fr (fun k => yev.ownBlock = some k) W w' := ((Fr.refl _ _).alloc o).grown hg (fun k hk _ => hk)
  have := h.yl
  rw [hfr.block _ (Array.getElem?_eq_some_iff.1 h.y).1 (fun e => by have := (h.e.lt _ e).1; omega)]
  exact h.y
theorem RsI.push (h : RsI w14 W yb cb n cc yev cy vs ls) {w' : World} {v' y : Value} {xs : List Nat} {o : Obj} (hy : EdR w14.heap.size W yev.ownBlock y xs) (hr : w'.ownsRow w14.heap.size TSI 1 v' (vs ++ [y]).length (vs ++ [y])) (hg : (W.alloc o).grownBy w' yev.ownBlock) (hat : v'.ownBlock = yev.ownBlock ∨ v'.ownBlock = some (W.alloc o).heap.size) :
    RsI w14 (w'.setCell ⟨yb, 1, none⟩ v') yb cb n cc v' cy (vs ++ [y]) (ls ++ [xs]) := by
  have hx := h.grow hg
  have hyl := h.yl
  have hcl := h.cl
  have hfr : Fr (fun k => yev.ownBlock = some k) W w' := ((Fr.refl _ _).alloc o).grown hg (fun k hk _ => hk)
  have hfs : Fr (fun b => b = yb) w' (w'.setCell ⟨yb, 1, none⟩ v') := (Fr.refl _ _).setCell _ _ (fun _ => rfl)
  have hel : ∀ k, yev.ownBlock = some k → w14.heap.size ≤ k := fun k hk => (h.e.lt k hk).1
  have hed : ∀ {v us}, EdR w14.heap.size W yev.ownBlock v us → EdR w14.heap.size (w'.setCell ⟨yb, 1, none⟩ v') v'.ownBlock v us := fun hv =>
    (hv.fr (ob' := v'.ownBlock) hfr (fun k _ _ k3 e => k3 e) (fun k k1 k2 => by
      rcases hat with e | e
      · rw [e]; exact k2
      · rw [e]; intro e2; cases e2; simp at k1; omega)).fr hfs (fun k k1 _ _ e => by omega) (fun _ _ e => e)
  refine ⟨?_, ?_, hfs.owns hr (fun k hk e => by have := (hr.lt k hk).1; omega), by rw [List.length_append, List.length_append, h.l]; rfl, fun i v us h1 h2 => ?_, ?_, h.yl, h.cl, h.ne⟩
  · rw [heap_setCell_same _ _ _ _ _ _ hx]; rfl
  · refine hfs.owns (hfr.owns h.c (fun k hk e => ?_)) (fun k hk e => ?_)
    · have := hel k e
      have hk2 : cb = k := by simpa [Value.ownBlock] using hk
      omega
    · have hk2 : cb = k := by simpa [Value.ownBlock] using hk
      exact h.ne (by omega)
  · by_cases hi : i < vs.length
    · rw [List.getElem?_append_left hi] at h1
      rw [List.getElem?_append_left (by rw [← h.l]; exact hi)] at h2
      exact hed (h.r i v us h1 h2)
    · rw [List.getElem?_append_right (by omega)] at h1
      rw [List.getElem?_append_right (by rw [← h.l]; omega), ← h.l] at h2
      cases hd : i - vs.length with
      | zero =>
        rw [hd] at h1 h2
        simp at h1 h2
        subst h1 h2
        exact hed hy
      | succ k => rw [hd] at h1; simp at h1
  · refine Fr.trans (h.fr.trans hfr (fun k hk hl => by have := hel k hk; omega)) hfs (fun k hk _ => .inl hk)
/-- The graph that was laid. -/
theorem RsI.graph (h : RsI w14 W yb cb n cc yev cy vs ls) (hc : ∀ i, i < n → 0 ≤ cy i ∧ cy i ≤ 4294967295) (hl : ∀ xs ∈ ls, ∀ x ∈ xs, x ≤ 1000000) : GrW W.heap.size W (.slice (some ⟨cb, 0, none⟩) n cc) yev (fL n cy) (ls.map fun xs => xs.map Int.ofNat) := by
  obtain ⟨ea, ec, rfl⟩ := own_form h.e
  refine ⟨own_told h.c, ⟨ea, ec, by rw [List.length_map, ← h.l], by rw [List.length_map, ← h.l]; exact own_cap h.e, own_capmax h.e, fun hp => ?_⟩, fun c hcm => ?_, fun l hlm x hx => ?_⟩
  · rw [List.length_map, ← h.l] at hp
    rcases h.e.2 with ⟨h1, h2⟩ | ⟨g, cap, cur, h1, h2, h3, _⟩
    · omega
    · cases h1
      refine ⟨g, 0, rfl, (Array.getElem?_eq_some_iff.1 h3).1, fun j l hj => ?_⟩
      rw [List.getElem?_map, Option.map_eq_some_iff] at hj
      obtain ⟨us, hus, rfl⟩ := hj
      have hjl := (List.getElem?_eq_some_iff.1 hus).1
      rw [← h.l] at hjl
      have hv : vs[j]? = some vs[j] := List.getElem?_eq_getElem hjl
      refine ⟨vs[j], ?_, (h.r j _ us hv hus).tl.ints⟩
      rw [Nat.zero_add, h.e.cellAt j (by omega)]
      simp [hv]
  · obtain ⟨i, hi, rfl⟩ := mem_fL hcm
    exact hc i hi
  · obtain ⟨us, hus, rfl⟩ := List.mem_map.1 hlm
    obtain ⟨y, hy, rfl⟩ := List.mem_map.1 hx
    have := hl us hus y hy
    unfold I64b
    simp
    omega
end
/-- append of a row of counts onto one that is there, and empty. -/
theorem wpList_appC {w : World} {ops : Array Oper} {rest : List Oper} {o : Oper} {a : Act} {Q : Exit → Act → World → Prop} (hg : o.guard = none) (s x : Operand)
    (ho : o.op = Op.call { callee := Callee.builtin Builtin.append, args := #[s, x], argTypes := #[22, 22] }) (B g : Nat) (xv : Value) (us : List Int) (m : Nat) (hm : m = us.length) (hs : a.eval s = .slice (some ⟨g, 0, none⟩) 0 0) (hown : w.ownsRow B TU32 1 (.slice (some ⟨g, 0, none⟩) 0 0) 0 []) (hx : a.eval x = xv)
    (B2 : Nat) (hT : w.ownsRow B2 TU32 1 xv m (us.map cU)) (hl : us.length ≤ 1000000) (hB : B ≤ w.heap.size)
    (hK : ∀ b c w', w'.ownsRow B TU32 1 (.slice (some ⟨b, 0, none⟩) m c) m (us.map cU) → w.grownBy w' (some g) → (b = g ∨ b = w.heap.size) → wpList Try.prog ops Q rest (a.put o.dst (.slice (some ⟨b, 0, none⟩) m c)) w') : wpList Try.prog ops Q (o :: rest) a w := by
  obtain ⟨i, h1, h2, h3, h4⟩ := info_split infoU32
  have hml : (9223372036854775807 : Nat) = maxLen := rfl
  subst hm
  obtain ⟨ad, c, hc1, hc2, hc3, hcell⟩ := (own_told hT).ex
  rcases hT.2 with ⟨e1, e2⟩ | ⟨g2, cap, cur, e1, _, hg2, _⟩
  · have hus : us = [] := List.length_eq_zero_iff.1 e2
    subst hus
    refine wpList_append_own_none hg s x 22 ho B TU32 i 1 Try.underlying22 h1 (.slice (some ⟨g, 0, none⟩) 0 0) 0 _ hs hown (by rw [hx, e1]) ?_
    exact hK g 0 w hown ⟨rfl, rfl, rfl, Nat.le_refl _, fun _ _ _ => rfl⟩ (.inl rfl)
  · rw [e1] at hx hc1
    simp only [Value.slice.injEq] at hc1
    obtain ⟨rfl, -, rfl⟩ := hc1
    refine wpList_append_own_at _ hg s x 22 ho B TU32 i (.int .u32 0) 1 4 Try.underlying22 h1 h2 h3 h4 rfl (by decide) _ 0 _ hs hown ⟨g2, 0, none⟩ us.length cap (us.map cU) hx (by simp) (fun j u hu => ?_) (by simp [Value.oneCell']) (by omega) (by omega) hB ?_
    · have hj := (List.getElem?_eq_some_iff.1 hu).1
      rw [List.length_map] at hj
      obtain ⟨b, o', e3, _, h7⟩ := hcell (by omega)
      simp only [Option.some.injEq] at e3
      injection e3 with e3 e4
      subst e3 e4
      rw [List.getElem?_map, Option.map_eq_some_iff] at hu
      obtain ⟨z, hz, rfl⟩ := hu
      rw [Addr.add_lit]
      exact h7 j z hz
    · intro v' w' k1 k2 k3 k4
      rw [Nat.zero_add, List.nil_append] at k1
      rcases k1.2 with ⟨e3, _⟩ | ⟨g3, cap3, _, e3, _⟩
      · have := (k3.1 e3).1
        cases this
      · subst e3
        refine hK g3 cap3 w' k1 k2 ?_
        rcases k4 with e4 | e4
        · simp [Value.ownBlock] at e4; exact .inl e4
        · simp [Value.ownBlock] at e4; exact .inr e4
theorem wi_nat {n : Nat} {xs : List Nat} (h : ∀ x ∈ xs, x < n) : wi n (xs.map Int.ofNat) = xs := by
  unfold wi
  rw [List.filter_eq_self.2 (fun x hx => by
    obtain ⟨i, h1, rfl⟩ := List.mem_map.1 hx
    have := h i h1
    simp
    omega), List.map_map]
  exact (List.map_congr_left (fun i _ => Int.toNat_natCast i)).trans (List.map_id _)
end Go.Proofs.Ytjmhlmohennknab
