/-
  Values as trees with the places of their parts; all values in one, in their order; their cells in memory.
-/
import Derived.Test.YtplckmoeaeabgaaVrT
import Derived.Test.YtplckmoeaeabgaaRng
namespace Go.Proofs.Ytplckmoeaeabgaa
open Go Go.ChangeShapes Go.WideShapes Go.ChangeAt Go.RowKit

/-- A value and where its parts lie. -/
inductive Mv where
  | mk (k n : Int) (s : List Int) (a : Option Addr) (c : Nat) (l : List Mv) : Mv
namespace Mv
def k : Mv → Int | .mk k _ _ _ _ _ => k
def n : Mv → Int | .mk _ n _ _ _ _ => n
def s : Mv → List Int | .mk _ _ s _ _ _ => s
def a : Mv → Option Addr | .mk _ _ _ a _ _ => a
def c : Mv → Nat | .mk _ _ _ _ c _ => c
def l : Mv → List Mv | .mk _ _ _ _ _ l => l
/-- Its four cells. -/
def cells (v : Mv) : List Value := [.int .i64 v.k, .int .i64 v.n, .string (strI v.s), .slice v.a v.l.length v.c]
/-- The value alone. -/
def vr : Mv → Vr | .mk k n s _ _ l => .mk k n s (l.map vr)
end Mv
theorem Mv.vr_mk (k n : Int) (s : List Int) (a : Option Addr) (c : Nat) (l : List Mv) : (Mv.mk k n s a c l).vr = .mk k n s (l.map Mv.vr) := by rw [Mv.vr]
theorem Mv.vr_k (v : Mv) : v.vr.k = v.k := by cases v; rw [Mv.vr_mk]; rfl
theorem Mv.vr_n (v : Mv) : v.vr.n = v.n := by cases v; rw [Mv.vr_mk]; rfl
theorem Mv.vr_s (v : Mv) : v.vr.s = v.s := by cases v; rw [Mv.vr_mk]; rfl
theorem Mv.vr_l (v : Mv) : v.vr.l = v.l.map Mv.vr := by cases v; rw [Mv.vr_mk]; rfl
theorem Mv.ind {P : Mv → Prop} (h : ∀ k n s a c l, (∀ x ∈ l, P x) → P (.mk k n s a c l)) : ∀ v, P v
  | .mk k n s a c l => h k n s a c l fun x _ => Mv.ind h x
/-- All values in one, each with how deep it is. -/
def walkM : Mv → Int → List (Int × Mv)
  | .mk k n s a c l, d => (d, .mk k n s a c l) :: l.flatMap fun x => walkM x (wrap64 (d + 1))
theorem walkM_mk (k n : Int) (s : List Int) (a : Option Addr) (c : Nat) (l : List Mv) (d : Int) : walkM (.mk k n s a c l) d = (d, .mk k n s a c l) :: l.flatMap fun x => walkM x (wrap64 (d + 1)) := by rw [walkM]
/-- A value's parts in memory, all that they reach in a set of blocks. -/
inductive MS (w : World) (S : Nat → Prop) : Mv → Prop where
  | mk (k n : Int) (s : List Int) (a : Option Addr) (c : Nat) (l : List Mv)
    (hk : -9223372036854775808 ≤ k ∧ k ≤ 9223372036854775807) (hn : -9223372036854775808 ≤ n ∧ n ≤ 9223372036854775807) (hs : Byt s) (hc : l.length ≤ c ∧ c ≤ 9223372036854775807) (h0 : a = none → c = 0)
    (ha : 0 < l.length → ∃ b o, a = some ⟨b, o, none⟩ ∧ S b)
    (hl : ∀ b o, a = some ⟨b, o, none⟩ → ∀ (i : Nat) x, l[i]? = some x → AtL w b (o + i * 4) x.cells)
    (hp : ∀ x ∈ l, MS w S x) : MS w S (.mk k n s a c l)
theorem pick_list {α β : Type} {P : Nat → α → β → Prop} : ∀ {l : List α}, (∀ (i : Nat) x, l[i]? = some x → ∃ y, P i x y) → ∃ ys : List β, ys.length = l.length ∧ ∀ (i : Nat) x y, l[i]? = some x → ys[i]? = some y → P i x y
  | [], _ => ⟨[], rfl, fun i x y h => by simp at h⟩
  | z :: l, h => by
    obtain ⟨y0, h0⟩ := h 0 z (by simp)
    obtain ⟨ys, h1, h2⟩ := pick_list (P := fun i => P (i + 1)) (l := l) (fun i x hx => h (i + 1) x (by simpa using hx))
    refine ⟨y0 :: ys, by simp [h1], fun i x y hx hy => ?_⟩
    cases i with
    | zero => simp at hx hy; subst hx hy; exact h0
    | succ i => exact h2 i x y (by simpa using hx) (by simpa using hy)
/-- A value in memory has its places. -/
theorem VS.tree {w : World} {S : Nat → Prop} {v : Vr} {cs : List Value} (h : VS w S v cs) : ∃ m : Mv, m.vr = v ∧ m.cells = cs ∧ MS w S m := by
  induction h with
  | mk k n s l a c cs hk hn hs hc h0 ha hl hp ih =>
    obtain ⟨ms, h1, h2⟩ := pick_list (P := fun i x (m : Mv) => m.vr = x ∧ m.cells = cs i ∧ MS w S m) ih
    have hmap : ms.map Mv.vr = l := List.ext_getElem? fun i => by
      rw [List.getElem?_map]
      cases hx : l[i]? with
      | none => rw [List.getElem?_eq_none_iff] at hx; rw [List.getElem?_eq_none (by omega)]; rfl
      | some x =>
        have hi := (List.getElem?_eq_some_iff.1 hx).1
        rw [List.getElem?_eq_getElem (by omega : i < ms.length)]
        have := (h2 i x ms[i] hx (List.getElem?_eq_getElem (by omega))).1
        simp [this]
    refine ⟨.mk k n s a c ms, by rw [Mv.vr_mk, hmap], by simp [Mv.cells, Mv.k, Mv.n, Mv.s, Mv.a, Mv.l, Mv.c, h1], .mk k n s a c ms hk hn hs (by omega) h0 (fun hl => ha (by omega)) (fun b o he i m hm => ?_) (fun m hm => ?_)⟩
    · have hi := (List.getElem?_eq_some_iff.1 hm).1
      have hx : l[i]? = some l[i] := List.getElem?_eq_getElem (by omega)
      rw [(h2 i _ m hx hm).2.1]
      exact hl b o he i _ hx
    · obtain ⟨i, hi⟩ := List.mem_iff_getElem?.1 hm
      have hi2 := (List.getElem?_eq_some_iff.1 hi).1
      exact (h2 i l[i] m (List.getElem?_eq_getElem (by omega)) hi).2.2
theorem MS.vs {w : World} {S : Nat → Prop} {m : Mv} (h : MS w S m) : VS w S m.vr m.cells := by
  induction h with
  | mk k n s a c l hk hn hs hc h0 ha hl hp ih =>
    rw [Mv.vr_mk]
    have hlen : (l.map Mv.vr).length = l.length := List.length_map ..
    have e : (Mv.mk k n s a c l).cells = [.int .i64 k, .int .i64 n, .string (strI s), .slice a (l.map Mv.vr).length c] := by rw [hlen]; rfl
    rw [e]
    have hat : ∀ (i : Nat) (x : Vr), (l.map Mv.vr)[i]? = some x → ∃ m : Mv, l[i]? = some m ∧ m.vr = x := fun i x hx => by
      rw [List.getElem?_map] at hx
      cases hm : l[i]? with
      | none => rw [hm] at hx; cases hx
      | some m => rw [hm] at hx; cases hx; exact ⟨m, rfl, rfl⟩
    refine .mk k n s (l.map Mv.vr) a c (fun i => ((l[i]?).map Mv.cells).getD []) hk hn hs (by rw [hlen]; exact hc) h0 (by rw [hlen]; exact ha) (fun b o he i x hx => ?_) (fun i x hx => ?_)
    · obtain ⟨m, hm, rfl⟩ := hat i x hx
      simp only [hm, Option.map_some, Option.getD_some]
      exact hl b o he i m hm
    · obtain ⟨m, hm, rfl⟩ := hat i x hx
      simp only [hm, Option.map_some, Option.getD_some]
      exact ih m (List.mem_of_getElem? hm)
theorem MS.ks {w w' : World} {S : Nat → Prop} (hK : KS S w w') {m : Mv} (h : MS w S m) : MS w' S m := by
  induction h with
  | mk k n s a c l hk hn hs hc h0 ha hl hp ih =>
    refine .mk k n s a c l hk hn hs hc h0 ha (fun b o he i x hx j u hu => ?_) ih
    obtain ⟨b', o', h1, h2⟩ := ha (by have := (List.getElem?_eq_some_iff.1 hx).1; omega)
    rw [he] at h1; cases h1
    exact hK.cell (p := ⟨b, o + i * 4 + j, none⟩) h2 (hl b o he i x hx j u hu)
theorem MS.weak {w : World} {S S' : Nat → Prop} (hS : ∀ b, S b → S' b) {m : Mv} (h : MS w S m) : MS w S' m := by
  induction h with
  | mk k n s a c l hk hn hs hc h0 ha hl hp ih =>
    exact .mk k n s a c l hk hn hs hc h0 (fun hl => by obtain ⟨b, o, h1, h2⟩ := ha hl; exact ⟨b, o, h1, hS b h2⟩) hl ih
theorem MS.facts {w : World} {S : Nat → Prop} {m : Mv} (h : MS w S m) : Byt m.s ∧ (-9223372036854775808 ≤ m.n ∧ m.n ≤ 9223372036854775807) := by
  cases h with
  | mk k n s a c l hk hn hs hc h0 ha hl hp => exact ⟨hs, hn⟩
theorem MS.walk {w : World} {S : Nat → Prop} {m : Mv} (h : MS w S m) : ∀ {d : Int} {x : Int × Mv}, x ∈ walkM m d → MS w S x.2 := by
  induction h with
  | mk k n s a c l hk hn hs hc h0 ha hl hp ih =>
    intro d x hx
    rw [walkM_mk] at hx
    rcases List.mem_cons.1 hx with rfl | hx
    · exact .mk k n s a c l hk hn hs hc h0 ha hl hp
    · obtain ⟨y, hy, hx⟩ := List.mem_flatMap.1 hx
      exact ih y hy hx
/-- The cells in these blocks, and in all blocks of values, stay. -/
def KQ (S : Nat → Prop) (W W' : World) : Prop := ∀ (k : Nat) (cs : Array Value) (t : TypeId) (fr : Nat × Nat), (S k ∨ t = 24) → W.heap[k]? = some (.cells cs t fr) → W'.heap[k]? = some (.cells cs t fr)
theorem KQ.ks {S : Nat → Prop} {W W' : World} (h : KQ S W W') : KS S W W' := fun k cs t fr hS hk => h k cs t fr (.inl hS) hk
theorem KQ.refl (S : Nat → Prop) (W : World) : KQ S W W := fun _ _ _ _ _ h => h
theorem KQ.t {S : Nat → Prop} {A B C : World} (h : KQ S A B) (k : KQ S B C) : KQ S A C := fun j cs t fr hS hj => k j cs t fr hS (h j cs t fr hS hj)
theorem KQ.b (S : Nat → Prop) (W : World) (l : Nat) (o o' : Obj) (h : W.heap[l]? = some o) (hc : o.isCells = false) : KQ S W (W.putObj l o') := fun k cs t fr _ hk => by
  have hne : k ≠ l := fun e => by subst e; rw [hk] at h; cases h; cases hc
  rw [World.putObj_heap_other hne]; exact hk
theorem KQ.below {S : Nat → Prop} {W W' : World} (h : Below W.heap.size W W') : KQ S W W' := fun k cs t fr _ hk => by
  rw [h.block k (Array.getElem?_eq_some_iff.1 hk).1]; exact hk
theorem KQ.alloc {S : Nat → Prop} {A W : World} (h : KQ S A W) (o : Obj) : KQ S A (W.alloc o) := h.t (KQ.below ((Below.refl _ W).alloc (Nat.le_refl _) o))
theorem KQ.set {S : Nat → Prop} {A W : World} (h : KQ S A W) (p : Addr) (u : Value) (hp : ¬ S p.block) (ht : ∀ cs fr, W.heap[p.block]? ≠ some (.cells cs 24 fr)) : KQ S A (W.setCell p u) := fun k cs t fr hS hk => by
  have h1 := h k cs t fr hS hk
  rw [Below.heap_setCell _ _ _ _ (fun e => by
    rcases hS with hS | rfl
    · exact hp (by rw [← e]; exact hS)
    · exact ht cs fr (by rw [← e]; exact h1))]
  exact h1
end Go.Proofs.Ytplckmoeaeabgaa
