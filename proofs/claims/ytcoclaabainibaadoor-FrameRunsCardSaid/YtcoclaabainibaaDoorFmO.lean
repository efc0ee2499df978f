/-
  append of instructions that came in; two frames side by side.
-/
import Derived.Test.YtcoclaabainibaaDoorFmJ
import Derived.Test.YtcoclaabainibaaDoorFmFrame
import Derived.Test.YtcoclaabainibaaDoorPick
import Derived.Deep.MidRow
import Derived.Laws.AppendOwnNone
namespace Go.Proofs.YtcoclaabainibaaDoor
open Go Go.ChangeShapes Go.WideShapes Go.ChangeAt Go.RowKit

theorem fr_setCells {fp : Nat → Prop} {a : World} {g : Nat} (hp : g < a.heap.size → fp g) : ∀ (vs : List Value) (o : Nat) (w : World), Fr fp a w → Fr fp a (w.setCells g o vs)
  | [], _, _, h => h
  | v :: r, o, _, h => fr_setCells hp r (o + 1) _ (h.setCell ⟨g, o, none⟩ v hp)
/-- append of instructions to an empty row. -/
theorem wpList_appI {w : World} {ops : Array Oper} {rest : List Oper} {o : Oper} {a : Act} {Q : Exit → Act → World → Prop} (hg : o.guard = none) (s x : Operand)
    (ho : o.op = Op.call { callee := Callee.builtin Builtin.append, args := #[s, x], argTypes := #[22, 22] }) (B g : Nat) (hs : a.eval s = .slice (some ⟨g, 0, none⟩) 0 0) (hown : w.ownsRow B TIn 3 (.slice (some ⟨g, 0, none⟩) 0 0) 0 [])
    (ad : Option Addr) (n c : Nat) (ls : List Ins) (hx : a.eval x = .slice ad n c) (hN : NilOk (.slice ad n c)) (hR : RwI w w.heap.size ad ls) (hn : n = ls.length) (hl : n ≤ 1000) (hB : B ≤ w.heap.size)
    (hK : ∀ v' w', w'.ownsRow B TIn 3 v' n (ls.flatMap insc) → w.grownBy w' (some g) → wpList Tryd.prog ops Q rest (a.put o.dst v') w') : wpList Tryd.prog ops Q (o :: rest) a w := by
  obtain ⟨i, h1, h2, h3, h4⟩ := info_split infoIn
  have hml : (9223372036854775807 : Nat) = maxLen := rfl
  rcases hN with e | ⟨a', n', c', e⟩
  · simp only [Value.slice.injEq] at e
    obtain ⟨rfl, rfl, rfl⟩ := e
    have hz : ls = [] := List.length_eq_zero_iff.1 hn.symm
    subst hz
    exact wpList_append_own_none hg s x 22 ho B TIn i 3 Tryd.underlying22 h1 _ 0 [] hs hown hx (hK _ _ hown ⟨rfl, rfl, rfl, Nat.le_refl _, fun _ _ _ => rfl⟩)
  · simp only [Value.slice.injEq] at e
    obtain ⟨rfl, rfl, rfl⟩ := e
    refine wpList_append_own _ hg s x 22 ho B TIn i (.agg #[.int .i64 0, .int .i64 0, .int .i64 0]) 3 24 Tryd.underlying22 h1 h2 h3 h4 rfl (by decide) _ 0 [] hs hown a' n c (ls.flatMap insc) hx (by rw [fi_len, hn]) (fun j u hu => ?_) (fi_one ls) (by omega) (by omega) hB ?_
    · have hj := (List.getElem?_eq_some_iff.1 hu).1
      rw [fi_len] at hj
      obtain ⟨b, o', he, _⟩ := hR.at_ (by omega)
      cases he
      exact hR.news j u hu
    · intro v' w' k1 k2 _
      refine hK v' w' ?_ k2
      rw [Nat.zero_add, List.nil_append] at k1
      exact k1
/-- Two frames, apart from each other and from the blocks X, above a bound. -/
structure PrF (B p1 p2 : Nat) (f1 f2 : Fs) (X : Nat → Prop) (W : World) : Prop where
  ex : ∃ S1 S2 q1 s1 q2 s2, FmW W S1 p1 f1 q1 s1 ∧ FmW W S2 p2 f2 q2 s2 ∧ (∀ k, S1 k → B ≤ k) ∧ (∀ k, S2 k → B ≤ k) ∧ (∀ k, S1 k → ¬ S2 k) ∧ ∀ k, X k → ¬ S1 k ∧ ¬ S2 k ∧ k < W.heap.size
section
variable {B p1 p2 : Nat} {f1 f2 : Fs} {X : Nat → Prop} {W W' : World}
theorem PrF.swap (h : PrF B p1 p2 f1 f2 X W) : PrF B p2 p1 f2 f1 X W := by
  obtain ⟨S1, S2, q1, s1, q2, s2, h1, h2, h3, h4, h5, h6⟩ := h.ex
  exact ⟨S2, S1, q2, s2, q1, s1, h2, h1, h4, h3, fun k a b => h5 k b a, fun k hk => ⟨(h6 k hk).2.1, (h6 k hk).1, (h6 k hk).2.2⟩⟩
theorem PrF.fr {fp : Nat → Prop} (h : PrF B p1 p2 f1 f2 X W) (hf : Fr fp W W') (hd : ∀ k, B ≤ k → ¬ fp k) : PrF B p1 p2 f1 f2 X W' := by
  obtain ⟨S1, S2, q1, s1, q2, s2, h1, h2, h3, h4, h5, h6⟩ := h.ex
  exact ⟨S1, S2, q1, s1, q2, s2, h1.fr hf (fun k hk => hd k (h3 k hk)), h2.fr hf (fun k hk => hd k (h4 k hk)), h3, h4, h5, fun k hk => ⟨(h6 k hk).1, (h6 k hk).2.1, Nat.lt_of_lt_of_le (h6 k hk).2.2 hf.size⟩⟩
theorem PrF.below (h : PrF B p1 p2 f1 f2 X W) (hb : Below W.heap.size W W') : PrF B p1 p2 f1 f2 X W' := h.fr (Fr.of_below (fp := fun _ => False) hb) (fun _ _ e => e)
/-- Blocks that were made behind them. -/
theorem PrF.fresh {X2 : Nat → Prop} (h : PrF B p1 p2 f1 f2 X W) (hb : Below W.heap.size W W') (hX : ∀ k, X2 k → X k ∨ (W.heap.size ≤ k ∧ k < W'.heap.size)) : PrF B p1 p2 f1 f2 X2 W' := by
  obtain ⟨S1, S2, q1, s1, q2, s2, h1, h2, h3, h4, h5, h6⟩ := h.ex
  refine ⟨S1, S2, q1, s1, q2, s2, h1.no (Fr.of_below hb), h2.no (Fr.of_below hb), h3, h4, h5, fun k hk => ?_⟩
  rcases hX k hk with e | e
  · exact ⟨(h6 k e).1, (h6 k e).2.1, Nat.lt_of_lt_of_le (h6 k e).2.2 hb.size⟩
  · exact ⟨fun e2 => by have := h1.sl k e2; omega, fun e2 => by have := h2.sl k e2; omega, e.2⟩
theorem PrF.next (h : PrF B p1 p2 f1 f2 X W) (hB : B ≤ W.heap.size) (hf : FsR f1) (r v : Int) : Calls Tryd.prog 11 #[.pointer (some ⟨p1, 0, none⟩), iv r, iv v] W fun e w' =>
    e = .returned (.tuple #[.agg (evA (nxE f1 r v)), iv (nxV f1 r v)]) ∧ PrF B p1 p2 (nxF f1 r v) f2 X w' ∧ Fr (fun k => B ≤ k ∧ ¬ X k) W w' := by
  obtain ⟨S1, S2, q1, s1, q2, s2, h1, h2, h3, h4, h5, h6⟩ := h.ex
  refine (FNext_any h1 hf r v).mono ?_
  rintro e w' ⟨rfl, ⟨qv2, sv2, k3⟩, k4⟩
  refine ⟨rfl, ⟨exS S1 W w', S2, qv2, sv2, q2, s2, k3, h2.fr k4 (fun k a b => h5 k b a), fun k hk => ?_, h4, fun k hk e => ?_, fun k hk => ⟨fun e => ?_, (h6 k hk).2.1, Nat.lt_of_lt_of_le (h6 k hk).2.2 k4.size⟩⟩, k4.mono (fun k hk _ => ⟨h3 k hk, fun e => (h6 k e).1 hk⟩)⟩
  · rcases hk with e | e
    · exact h3 k e
    · exact Nat.le_trans hB e.1
  · rcases hk with e2 | e2
    · exact h5 k e2 e
    · have := h2.sl k e; omega
  · rcases e with e2 | e2
    · exact (h6 k hk).1 e2
    · have := (h6 k hk).2.2; omega
theorem PrF.q (h : PrF B p1 p2 f1 f2 X W) : StQ W (.pointer (some ⟨p1, 0, none⟩)) f1.st := by
  obtain ⟨S1, S2, q1, s1, q2, s2, h1, h2, h3, h4, h5⟩ := h.ex
  exact .inr ⟨p1, S1, f1, q1, s1, rfl, h1, rfl⟩
/-- Two frames, made one behind the other. -/
theorem PrF.new {S1 S2 : Nat → Prop} {q1 s1 q2 s2 : Value} {W1 W2 : World} (h1 : FmW W1 S1 p1 f1 q1 s1) (hB1 : ∀ k, S1 k → B ≤ k) (hb : Below W1.heap.size W1 W2) (h2 : FmW W2 S2 p2 f2 q2 s2) (hB2 : ∀ k, S2 k → W1.heap.size ≤ k) (hB : B ≤ W1.heap.size) : PrF B p1 p2 f1 f2 (fun _ => False) W2 :=
  ⟨S1, S2, q1, s1, q2, s2, h1.no (Fr.of_below hb), h2, hB1, fun k hk => Nat.le_trans hB (hB2 k hk), fun k a b => by have := h1.sl k a; have := hB2 k b; omega, fun k hk => hk.elim⟩
end
/-- Cells that may be written, of a row of one's own. -/
theorem own_there {w : World} {B T k n g c : Nat} {xs : List Value} (h : w.ownsRow B T k (.slice (some ⟨g, 0, none⟩) n c) n xs) : w.there g 0 (n * k) := fun j hj => by
  rcases h.2 with ⟨e, _⟩ | ⟨g', cap, cur, e, _, hg, hc, _, hs, _⟩
  · cases e
  · cases e
    rw [Nat.zero_add]
    refine ⟨?_, frozen_of_row _ _ _ _ _ hg⟩
    have : n * k ≤ c * k := Nat.mul_le_mul_right k hc
    rw [cell_of_row w g j _ _ _ hg, Array.getElem?_eq_getElem (by omega)]
    rfl
theorem there_of_block {w w' : World} {g n : Nat} (h : w.there g 0 n) (hb : w'.heap[g]? = w.heap[g]?) : w'.there g 0 n := fun j hj => by
  have h1 := h j hj
  refine ⟨?_, ?_⟩
  · rw [World.cell?_of_block (w := w) (w' := w') (a := ⟨g, 0 + j, none⟩) hb]; exact h1.1
  · have h3 := h1.2
    unfold World.frozen? at h3 ⊢
    rw [show w'.heap[(⟨g, 0 + j, none⟩ : Addr).block]? = w.heap[(⟨g, 0 + j, none⟩ : Addr).block]? from hb]
    exact h3
/-- New, whatever it answers. -/
theorem New_u {w : World} {ls : List Ins} {arg er : Int} (her : er = (checkP ls 8).2.2) (ad : Option Addr) (N c : Nat) (hT : TabB w) (hok : ∀ x ∈ ls, InsOk x) (hR : RwI w w.heap.size ad ls) (hN : N = ls.length) (hNc : N ≤ c) (hc : c ≤ 9223372036854775807) :
    Calls Tryd.prog 9 #[.slice ad N c, iv arg] w fun e w' => Below w.heap.size w w' ∧ ∃ fv, e = .returned (.tuple #[.pointer fv, .int .i64 er]) ∧ (er = 0 → ∃ p S qv sv, fv = some ⟨p, 0, none⟩ ∧ (∀ k, S k → w.heap.size ≤ k) ∧ FmW w' S p (fs0 ls arg) qv sv) ∧ (er ≠ 0 → fv = none) := by
  refine (New_any ls arg ad N c w hT hok hR hN hNc hc).mono ?_
  rintro e w' ⟨h1, h2⟩
  refine ⟨h1, ?_⟩
  by_cases h0 : (checkP ls 8).2.2 = 0
  · rw [if_pos h0] at h2
    obtain ⟨p, S, qv, sv, rfl, h3, h4⟩ := h2
    exact ⟨some ⟨p, 0, none⟩, by rw [her, h0], fun _ => ⟨p, S, qv, sv, rfl, h3, h4⟩, fun e => absurd (her.trans h0) e⟩
  · rw [if_neg h0] at h2
    exact ⟨none, by rw [h2, her], fun e => absurd (her.symm.trans e) h0, fun _ => rfl⟩
theorem there_off {w : World} {g n k : Nat} (h : w.there g 0 n) (hk : k + 3 ≤ n) : w.there g k 3 := fun j hj => by
  have := h (k + j) (by omega)
  rw [Nat.zero_add] at this
  exact this
/-- The beginning of a told row. -/
theorem Tl.cut {α : Type} {f : α → Value} {B : Nat} {w : World} {a : Option Addr} {n c k : Nat} {xs : List α} (h : Tl f B w (.slice a n c) xs) (hk : k ≤ xs.length) : Tl f B w (.slice a k c) (xs.take k) := by
  obtain ⟨a', c', e, h1, h2, h3⟩ := h.ex
  simp only [Value.slice.injEq] at e
  obtain ⟨rfl, rfl, rfl⟩ := e
  have hl : (xs.take k).length = k := by rw [List.length_take]; omega
  refine ⟨a, c, by rw [hl], by omega, h2, fun hp => ?_⟩
  obtain ⟨b, o, h4, h5, h6⟩ := h3 (by omega)
  exact ⟨b, o, h4, h5, fun j x hx => h6 j x (by
    rw [List.getElem?_take] at hx
    split at hx
    · exact hx
    · cases hx)⟩
end Go.Proofs.YtcoclaabainibaaDoor
