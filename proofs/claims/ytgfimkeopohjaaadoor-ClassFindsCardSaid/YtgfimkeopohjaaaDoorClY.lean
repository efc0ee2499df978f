/- ClZ ClY in one -/
import Derived.Test.YtgfimkeopohjaaaDoorClP
namespace Go.Proofs.YtgfimkeopohjaaaDoor
open Go Go.ChangeShapes Go.WideShapes Go.ChangeAt Go.RowKit

/-- The slice's block is in the set. -/
def SB (S : Nat → Prop) (v : Value) : Prop := ∀ b, v.ownBlock = some b → S b
theorem SB.mono {S S' : Nat → Prop} {v : Value} (h : SB S v) (hs : ∀ b, S b → S' b) : SB S' v := fun b hb => hs b (h b hb)
def ZI (S : Nat → Prop) (W : World) (v : Value) (l : List Ins) : Prop := SlI W W.heap.size v l ∧ SB S v
def ZF (S : Nat → Prop) (W : World) (v : Value) (l : List Face) : Prop := SlF W W.heap.size v l ∧ SB S v
structure ZR (S : Nat → Prop) (W : World) (a : Option Addr) (ms : List (List Ins)) : Prop where
  at_ : 0 < ms.length → ∃ b o, a = some ⟨b, o, none⟩ ∧ b < W.heap.size
  rows : ∀ b o, a = some ⟨b, o, none⟩ → ∀ (i : Nat) l, ms[i]? = some l → ∃ v, W.cell? ⟨b, o + i, none⟩ = some v ∧ ZI S W v l
def ZM (S : Nat → Prop) (W : World) (v : Value) (ms : List (List Ins)) : Prop := (∃ a c, v = .slice a ms.length c ∧ ZR S W a ms ∧ ms.length ≤ c ∧ c ≤ 9223372036854775807) ∧ SB S v
structure ZC (S : Nat → Prop) (W : World) (c : Cls) (vf vm : Value) : Prop where
  f : ZF S W vf c.faces
  m : ZM S W vm c.methods
  id : c.id.length = 16
  slots : J64 c.slots
section
variable {S S' : Nat → Prop} {W W' : World}
theorem ZI.kept {v : Value} {l : List Ins} (h : ZI S W v l) (hS : ∀ b, S b → W'.heap[b]? = W.heap[b]?) (hz : W.heap.size ≤ W'.heap.size) : ZI S W' v l := by
  obtain ⟨⟨a, c, rfl, h2, h3⟩, h4⟩ := h
  refine ⟨⟨a, c, rfl, ⟨fun hl => ?_, fun b o he i x hx j u hu => ?_⟩, h3⟩, h4⟩
  · obtain ⟨b, o, h5, h6⟩ := h2.at_ hl
    exact ⟨b, o, h5, by omega⟩
  · subst he
    exact (World.cell?_of_block (w := W) (w' := W') (a := ⟨b, o + i * 3 + j, none⟩) (hS b (h4 b rfl))).trans (h2.rows b o rfl i x hx j u hu)
theorem ZF.kept {v : Value} {l : List Face} (h : ZF S W v l) (hS : ∀ b, S b → W'.heap[b]? = W.heap[b]?) (hz : W.heap.size ≤ W'.heap.size) : ZF S W' v l := by
  obtain ⟨⟨a, c, rfl, h2, h3⟩, h4⟩ := h
  refine ⟨⟨a, c, rfl, ⟨fun hl => ?_, fun b o he i x hx j u hu => ?_, h2.len, h2.ok⟩, h3⟩, h4⟩
  · obtain ⟨b, o, h5, h6⟩ := h2.some hl
    exact ⟨b, o, h5, by omega⟩
  · subst he
    exact (World.cell?_of_block (w := W) (w' := W') (a := ⟨b, o + i * 17 + j, none⟩) (hS b (h4 b rfl))).trans (h2.cells b o rfl i x hx j u hu)
theorem ZM.kept {v : Value} {ms : List (List Ins)} (h : ZM S W v ms) (hS : ∀ b, S b → W'.heap[b]? = W.heap[b]?) (hz : W.heap.size ≤ W'.heap.size) : ZM S W' v ms := by
  obtain ⟨⟨a, c, rfl, h2, h3⟩, h4⟩ := h
  refine ⟨⟨a, c, rfl, ⟨fun hl => ?_, fun b o he i x hx => ?_⟩, h3⟩, h4⟩
  · obtain ⟨b, o, h5, h6⟩ := h2.at_ hl
    exact ⟨b, o, h5, by omega⟩
  · subst he
    obtain ⟨v, h5, h6⟩ := h2.rows b o rfl i x hx
    exact ⟨v, (World.cell?_of_block (w := W) (w' := W') (a := ⟨b, o + i, none⟩) (hS b (h4 b rfl))).trans h5, h6.kept hS hz⟩
theorem ZC.kept {c : Cls} {vf vm : Value} (h : ZC S W c vf vm) (hS : ∀ b, S b → W'.heap[b]? = W.heap[b]?) (hz : W.heap.size ≤ W'.heap.size) : ZC S W' c vf vm := ⟨h.f.kept hS hz, h.m.kept hS hz, h.id, h.slots⟩
theorem ZI.mono {v : Value} {l : List Ins} (h : ZI S W v l) (hs : ∀ b, S b → S' b) : ZI S' W v l := ⟨h.1, h.2.mono hs⟩
theorem ZF.mono {v : Value} {l : List Face} (h : ZF S W v l) (hs : ∀ b, S b → S' b) : ZF S' W v l := ⟨h.1, h.2.mono hs⟩
theorem ZM.mono {v : Value} {l : List (List Ins)} (h : ZM S W v l) (hs : ∀ b, S b → S' b) : ZM S' W v l := by
  obtain ⟨⟨a, c, h1, h2, h3⟩, h4⟩ := h
  exact ⟨⟨a, c, h1, ⟨h2.at_, fun b o he i l hl => by obtain ⟨v, h5, h6⟩ := h2.rows b o he i l hl; exact ⟨v, h5, h6.mono hs⟩⟩, h3⟩, h4.mono hs⟩
theorem ZC.mono {c : Cls} {vf vm : Value} (h : ZC S W c vf vm) (hs : ∀ b, S b → S' b) : ZC S' W c vf vm := ⟨h.f.mono hs, h.m.mono hs, h.id, h.slots⟩
theorem ZM.sl {v : Value} {ms : List (List Ins)} (h : ZM S W v ms) : SlM W W.heap.size v ms := by
  obtain ⟨⟨a, c, h1, h2, h3⟩, h4⟩ := h
  exact ⟨a, c, h1, ⟨h2.at_, fun b o he i l hl => by obtain ⟨v, h5, h6⟩ := h2.rows b o he i l hl; exact ⟨v, h5, h6.1⟩⟩, h3⟩
theorem ZC.cl {c : Cls} {vf vm : Value} (h : ZC S W c vf vm) : ClC W W.heap.size c vf vm := ⟨h.f.1, h.m.sl, h.id, h.slots⟩
theorem ZI.nil (S : Nat → Prop) (W : World) : ZI S W (.slice none 0 0) [] := ⟨⟨none, 0, rfl, ⟨fun h => absurd h (by simp), fun b o h => by cases h⟩, Nat.le_refl _, by omega, fun x h => by cases h⟩, fun b h => by cases h⟩
theorem ZF.nil (S : Nat → Prop) (W : World) : ZF S W (.slice none 0 0) [] := ⟨⟨none, 0, rfl, ⟨fun h => absurd h (by simp), fun b o h => (by cases h), fun x h => (by cases h), fun x h => by cases h⟩, Nat.le_refl _, by omega⟩, fun b h => by cases h⟩
theorem ZM.nil (S : Nat → Prop) (W : World) : ZM S W (.slice none 0 0) [] := ⟨⟨none, 0, rfl, ⟨fun h => absurd h (by simp), fun b o h => by cases h⟩, Nat.le_refl _, by omega⟩, fun b h => by cases h⟩
end
/-- What an own row is: nil, or a block of its own with its cells ahead. -/
theorem own_cases {W : World} {base : Nat} {e : TypeId} {size n : Nat} {v : Value} {xs : List Value} (h : W.ownsRow base e size v n xs) :
    ∃ a c, v = .slice a n c ∧ n ≤ c ∧ c ≤ 9223372036854775807 ∧ (0 < n → ∃ g, a = some ⟨g, 0, none⟩ ∧ g < W.heap.size) ∧ (∀ g o, a = some ⟨g, o, none⟩ → o = 0 ∧ base ≤ g ∧ AtL W g 0 xs) := by
  rcases h.2 with ⟨q1, q2⟩ | ⟨g, cap, cur, q1, q2, q3, q4, q5, q6, q7⟩
  · subst q2
    exact ⟨none, 0, q1, Nat.le_refl _, by omega, fun h => by omega, fun g o h => by cases h⟩
  · refine ⟨some ⟨g, 0, none⟩, cap, q1, q4, by unfold maxLen at q5; omega, fun _ => ⟨g, rfl, (Array.getElem?_eq_some_iff.1 q3).1⟩, fun g' o he => ?_⟩
    cases he
    refine ⟨rfl, q2, fun j u hu => ?_⟩
    have hc := (AtL.row (W := W) (b := g) (cs := cur.toList) (by simpa using q3)) j u (by rw [← q7, List.getElem?_take] at hu; split at hu; exact hu; cases hu)
    exact hc
end Go.Proofs.YtgfimkeopohjaaaDoor

namespace Go.Proofs.YtgfimkeopohjaaaDoor
open Go Go.ChangeShapes Go.WideShapes Go.ChangeAt Go.RowKit

theorem flatK_len {α : Type} {f : α → List Value} {k : Nat} : ∀ {l : List α}, (∀ x ∈ l, (f x).length = k) → (l.flatMap f).length = l.length * k
  | [], _ => by simp
  | x :: r, h => by
    rw [List.flatMap_cons, List.length_append, flatK_len (fun y hy => h y (List.mem_cons_of_mem _ hy)), List.length_cons, h x (List.mem_cons_self ..), Nat.succ_mul]
    omega
theorem flatK_get {α : Type} {f : α → List Value} {k j : Nat} (hj : j < k) {x : α} : ∀ {l : List α} {i : Nat}, (∀ x ∈ l, (f x).length = k) → l[i]? = some x → (l.flatMap f)[i * k + j]? = (f x)[j]?
  | y :: r, 0, hk, h => by
    cases h
    rw [List.flatMap_cons, List.getElem?_append_left (by rw [hk x (List.mem_cons_self ..)]; omega)]
    simp
  | y :: r, i + 1, hk, h => by
    have hy := hk y (List.mem_cons_self ..)
    rw [List.flatMap_cons, List.getElem?_append_right (by rw [hy, Nat.succ_mul]; omega), show (i + 1) * k + j - (f y).length = i * k + j by rw [hy, Nat.succ_mul]; omega]
    exact flatK_get hj (fun z hz => hk z (List.mem_cons_of_mem _ hz)) (by simpa using h)
theorem insc_k (l : List Ins) : ∀ x ∈ l, (insc x).length = 3 := fun _ _ => rfl
theorem fcl_k {l : List Face} (h : ∀ f ∈ l, f.id.length = 16) : ∀ f ∈ l, (fcl f).length = 17 := fun f hf => fcl_len (h f hf)
/-- The cells of an own row of items of k cells. -/
theorem own_item {α : Type} {f : α → List Value} {k base n : Nat} {W : World} {e : TypeId} {v : Value} {l : List α} (hk : ∀ x ∈ l, (f x).length = k) (h : W.ownsRow base e k v n (l.flatMap f)) {g o : Nat} {c : Nat} (hv : v = .slice (some ⟨g, o, none⟩) n c) {i : Nat} {x : α} (hx : l[i]? = some x) : AtL W g (o + i * k) (f x) := by
  obtain ⟨a, c', h1, _, _, _, h2⟩ := own_cases h
  rw [hv] at h1
  cases h1
  obtain ⟨rfl, _, h3⟩ := h2 g o rfl
  intro j u hu
  have hj : j < k := by rw [← hk x (List.mem_of_getElem? hx)]; exact (List.getElem?_eq_some_iff.1 hu).1
  have h4 := h3 (i * k + j) u (by rw [flatK_get hj hk hx]; exact hu)
  rwa [← Nat.add_assoc] at h4
theorem own_n {α : Type} {f : α → List Value} {k base n : Nat} {W : World} {e : TypeId} {v : Value} {l : List α} (hk0 : 0 < k) (hk : ∀ x ∈ l, (f x).length = k) (h : W.ownsRow base e k v n (l.flatMap f)) : n = l.length := by
  have h1 := h.1
  rw [flatK_len hk] at h1
  exact (Nat.eq_of_mul_eq_mul_right hk0 h1).symm
theorem own_sb {base n size : Nat} {W : World} {e : TypeId} {v : Value} {xs : List Value} (h : W.ownsRow base e size v n xs) : SB (fun b => base ≤ b ∧ b < W.heap.size) v := by
  rcases h.2 with ⟨rfl, _⟩ | ⟨g, cap, cur, rfl, q2, q3, _⟩
  · intro b hb; cases hb
  · intro b hb
    cases hb
    exact ⟨q2, (Array.getElem?_eq_some_iff.1 q3).1⟩
theorem ZI.own {base n : Nat} {W : World} {v : Value} {l : List Ins} (h : W.ownsRow base 61 3 v n (l.flatMap insc)) (hok : ∀ x ∈ l, InsOk x) : ZI (fun b => base ≤ b ∧ b < W.heap.size) W v l := by
  have hn := own_n (by omega) (insc_k l) h
  subst hn
  obtain ⟨a, c, h1, h2, h3, h4, h5⟩ := own_cases h
  refine ⟨⟨a, c, h1, ⟨fun hl => ?_, fun b o he i x hx => ?_⟩, h2, h3, hok⟩, own_sb h⟩
  · obtain ⟨g, h6, h7⟩ := h4 hl
    exact ⟨g, 0, h6, h7⟩
  · subst he
    exact own_item (insc_k l) h h1 hx
theorem ZF.own {base n : Nat} {W : World} {v : Value} {l : List Face} (h : W.ownsRow base 74 17 v n (l.flatMap fcl)) (hid : ∀ f ∈ l, f.id.length = 16) (hok : ∀ f ∈ l, I64 f.base) : ZF (fun b => base ≤ b ∧ b < W.heap.size) W v l := by
  have hn := own_n (by omega) (fcl_k hid) h
  subst hn
  obtain ⟨a, c, h1, h2, h3, h4, h5⟩ := own_cases h
  refine ⟨⟨a, c, h1, ⟨fun hl => ?_, fun b o he i x hx j u hu => ?_, hid, hok⟩, h2, h3⟩, own_sb h⟩
  · obtain ⟨g, h6, h7⟩ := h4 hl
    exact ⟨g, 0, h6, h7⟩
  · subst he
    exact own_item (fcl_k hid) h h1 hx j u hu
/-- All blocks but the row's own. -/
def Ex (W : World) (v : Value) (b : Nat) : Prop := b < W.heap.size ∧ v.ownBlock ≠ some b
theorem ex_kept {W wa w5 : World} {v : Value} (ha : Fr (fun _ => False) W wa) (hg : wa.grownBy w5 v.ownBlock) : ∀ b, Ex W v b → w5.heap[b]? = W.heap[b]? := fun b hb =>
  (hg.block b (Nat.lt_of_lt_of_le hb.1 ha.size) (fun e => hb.2 e.symm)).trans (ha.block b hb.1 (fun h => h))
theorem ex_mono {W wa w5 : World} {v v5 : Value} (ha : Fr (fun _ => False) W wa) (hg : wa.grownBy w5 v.ownBlock) (hat : v5.ownBlock = v.ownBlock ∨ v5.ownBlock = some wa.heap.size) : ∀ b, Ex W v b → Ex w5 v5 b := fun b hb => by
  refine ⟨Nat.lt_of_lt_of_le hb.1 (Nat.le_trans ha.size hg.size), ?_⟩
  rcases hat with e | e
  · rw [e]; exact hb.2
  · rw [e]; intro h; cases h; exact absurd hb.1 (by have := ha.size; omega)
/-- An own row of methods. -/
structure OwM (base : Nat) (W : World) (v : Value) (ms : List (List Ins)) : Prop where
  ex : ∃ vs, W.ownsRow base 56 1 v ms.length vs ∧ ∀ (i : Nat) l, ms[i]? = some l → ∃ u, vs[i]? = some u ∧ ZI (fun b => base ≤ b ∧ Ex W v b) W u l
theorem OwM.nil (base : Nat) (W : World) : OwM base W (.slice none 0 0) [] := ⟨[], ⟨rfl, .inl ⟨rfl, rfl⟩⟩, fun i l h => by simp at h⟩
theorem OwM.push {base : Nat} {W wa w5 : World} {v v5 u : Value} {ms : List (List Ins)} {l : List Ins} {vs : List Value} (hx : ∀ (i : Nat) l, ms[i]? = some l → ∃ u, vs[i]? = some u ∧ ZI (fun b => base ≤ b ∧ Ex W v b) W u l) (hlen : vs.length = ms.length) (hu : ZI (fun b => base ≤ b ∧ Ex W v b) W u l)
    (ha : Fr (fun _ => False) W wa) (hg : wa.grownBy w5 v.ownBlock) (hat : v5.ownBlock = v.ownBlock ∨ v5.ownBlock = some wa.heap.size) (hown : w5.ownsRow base 56 1 v5 (ms.length + 1) (vs ++ [u])) : OwM base w5 v5 (ms ++ [l]) := by
  have hz := Nat.le_trans ha.size hg.size
  have hm : ∀ {u' : Value} {l' : List Ins}, ZI (fun b => base ≤ b ∧ Ex W v b) W u' l' → ZI (fun b => base ≤ b ∧ Ex w5 v5 b) w5 u' l' := fun h => (h.kept (fun b hb => ex_kept ha hg b hb.2) hz).mono fun b hb => ⟨hb.1, ex_mono ha hg hat b hb.2⟩
  refine ⟨vs ++ [u], by simpa using hown, fun i l' hl' => ?_⟩
  by_cases hi : i < ms.length
  · rw [List.getElem?_append_left hi] at hl'
    obtain ⟨u', h1, h2⟩ := hx i l' hl'
    exact ⟨u', by rw [List.getElem?_append_left (by omega)]; exact h1, hm h2⟩
  · rw [List.getElem?_append_right (by omega)] at hl'
    have hi0 : i - ms.length = 0 := by
      have := (List.getElem?_eq_some_iff.1 hl').1
      simp at this; omega
    rw [hi0] at hl'
    simp at hl'
    subst hl'
    exact ⟨u, by rw [List.getElem?_append_right (by omega), show i - vs.length = 0 by omega]; rfl, hm hu⟩
theorem OwM.zm {base : Nat} {W : World} {v : Value} {ms : List (List Ins)} (h : OwM base W v ms) : ZM (fun b => base ≤ b ∧ b < W.heap.size) W v ms := by
  obtain ⟨vs, h1, h2⟩ := h
  obtain ⟨a, c, h3, h4, h5, h6, h7⟩ := own_cases h1
  refine ⟨⟨a, c, h3, ⟨fun hl => ?_, fun b o he i l hl => ?_⟩, h4, h5⟩, own_sb h1⟩
  · obtain ⟨g, h8, h9⟩ := h6 hl
    exact ⟨g, 0, h8, h9⟩
  · obtain ⟨rfl, h8, h9⟩ := h7 b o he
    obtain ⟨u, h10, h11⟩ := h2 i l hl
    exact ⟨u, h9 i u h10, h11.mono fun b hb => ⟨hb.1, hb.2.1⟩⟩
theorem own_kept {base size n : Nat} {W W' : World} {e : TypeId} {v : Value} {xs : List Value} (h : W.ownsRow base e size v n xs) (hB : ∀ b, base ≤ b → b < W.heap.size → W'.heap[b]? = W.heap[b]?) : W'.ownsRow base e size v n xs := by
  refine ⟨h.1, ?_⟩
  rcases h.2 with hn | ⟨g, cap, cur, hv, h2, hg, rest⟩
  · exact .inl hn
  · exact .inr ⟨g, cap, cur, hv, h2, (hB g h2 (Array.getElem?_eq_some_iff.1 hg).1).trans hg, rest⟩
theorem OwM.kept {base : Nat} {W W' : World} {v : Value} {ms : List (List Ins)} (h : OwM base W v ms) (hB : ∀ b, base ≤ b → b < W.heap.size → W'.heap[b]? = W.heap[b]?) (hz : W.heap.size ≤ W'.heap.size) : OwM base W' v ms := by
  obtain ⟨vs, h1, h2⟩ := h
  refine ⟨vs, own_kept h1 hB, fun i l hl => ?_⟩
  obtain ⟨u, h3, h4⟩ := h2 i l hl
  exact ⟨u, h3, (h4.kept (fun b hb => hB b hb.1 hb.2.1) hz).mono fun b hb => ⟨hb.1, Nat.lt_of_lt_of_le hb.2.1 hz, hb.2.2⟩⟩
/-- A class with its two slices. -/
abbrev C3 : Type := Cls × Value × Value
def c3c (r : C3) : List Value := clc r.1 r.2.1 r.2.2
/-- An own row of classes. -/
structure OwC (base : Nat) (W : World) (v : Value) (rs : List C3) : Prop where
  own : W.ownsRow base 38 19 v rs.length (rs.flatMap c3c)
  all : ∀ r ∈ rs, ZC (fun b => base ≤ b ∧ Ex W v b) W r.1 r.2.1 r.2.2
theorem OwC.nil (base : Nat) (W : World) : OwC base W (.slice none 0 0) [] := ⟨⟨rfl, .inl ⟨rfl, rfl⟩⟩, fun r h => by cases h⟩
theorem c3_k {rs : List C3} (h : ∀ r ∈ rs, r.1.id.length = 16) : ∀ r ∈ rs, (c3c r).length = 19 := fun r hr => clc_len (h r hr)
theorem OwC.push {base : Nat} {W wa w5 : World} {v v5 : Value} {rs : List C3} {r : C3} (hx : ∀ r ∈ rs, ZC (fun b => base ≤ b ∧ Ex W v b) W r.1 r.2.1 r.2.2) (hu : ZC (fun b => base ≤ b ∧ Ex W v b) W r.1 r.2.1 r.2.2)
    (ha : Fr (fun _ => False) W wa) (hg : wa.grownBy w5 v.ownBlock) (hat : v5.ownBlock = v.ownBlock ∨ v5.ownBlock = some wa.heap.size) (hown : w5.ownsRow base 38 19 v5 (rs.length + 1) (rs.flatMap c3c ++ c3c r)) : OwC base w5 v5 (rs ++ [r]) := by
  have hz := Nat.le_trans ha.size hg.size
  refine ⟨by simpa using hown, fun r' hr' => ?_⟩
  have h1 : ZC (fun b => base ≤ b ∧ Ex W v b) W r'.1 r'.2.1 r'.2.2 := by
    rcases List.mem_append.1 hr' with h | h
    · exact hx r' h
    · rw [List.mem_singleton.1 h]; exact hu
  exact (h1.kept (fun b hb => ex_kept ha hg b hb.2) hz).mono fun b hb => ⟨hb.1, ex_mono ha hg hat b hb.2⟩
theorem OwC.kept {base : Nat} {W W' : World} {v : Value} {rs : List C3} (h : OwC base W v rs) (hB : ∀ b, base ≤ b → b < W.heap.size → W'.heap[b]? = W.heap[b]?) (hz : W.heap.size ≤ W'.heap.size) : OwC base W' v rs :=
  ⟨own_kept h.own hB, fun r hr => ((h.all r hr).kept (fun b hb => hB b hb.1 hb.2.1) hz).mono fun _ hb => ⟨hb.1, Nat.lt_of_lt_of_le hb.2.1 hz, hb.2.2⟩⟩
theorem OwC.sl {base : Nat} {W : World} {v : Value} {rs : List C3} (h : OwC base W v rs) : SlC W W.heap.size v (rs.map (·.1)) := by
  obtain ⟨a, c, h3, h4, h5, h6, h7⟩ := own_cases h.own
  have hid : ∀ r ∈ rs, r.1.id.length = 16 := fun r hr => (h.all r hr).id
  refine ⟨a, c, by rw [h3, List.length_map], ⟨fun hl => ?_, fun b o he i x hx => ?_⟩, by rw [List.length_map]; exact h4, h5⟩
  · obtain ⟨g, h8, h9⟩ := h6 (by simpa using hl)
    exact ⟨g, 0, h8, h9⟩
  · rw [List.getElem?_map, Option.map_eq_some_iff] at hx
    obtain ⟨r, hr, rfl⟩ := hx
    subst he
    exact ⟨r.2.1, r.2.2, own_item (c3_k hid) h.own h3 hr, (h.all r (List.mem_of_getElem? hr)).cl⟩
end Go.Proofs.YtgfimkeopohjaaaDoor
