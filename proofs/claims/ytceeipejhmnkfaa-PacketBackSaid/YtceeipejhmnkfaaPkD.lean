/-
  A packet that is filled field by field (the plain twin's Decode): its state.
-/
import Derived.Test.YtceeipejhmnkfaaPkC
import Derived.Deep.MidRow
import Derived.Test.YtceeipejhmnkfaaPkG
import Derived.Test.YtceeipejhmnkfaaPkE
import Derived.Test.YtceeipejhmnkfaaPkR
namespace Go.Proofs.Ytceeipejhmnkfaa
open Go Go.ChangeShapes Go.WideShapes Go.ChangeAt Go.RowKit

theorem InP.setc {W : World} {g : Nat} {q q' : Pk} {a a' : Option Addr} {c c' : Nat} (h : InP W g q a c) (j : Nat) (v : Value) (hs : (pkc q a c).set j v = pkc q' a' c') : InP (W.setCell ⟨g, j, none⟩ v) g q' a' c' := by
  unfold InP at h ⊢
  rw [heap_setCell_same W g j _ _ _ h]
  unfold pkA
  rw [List.setIfInBounds_toArray, hs]
theorem pkc_set4 (q : Pk) (a : Option Addr) (c : Nat) (z : Int) : (pkc q a c).set 4 (.int .u64 z) = pkc { q with ca := z } a c := rfl
theorem pkc_setb {q q' : Pk} {a a' : Option Addr} {c c' : Nat} (h16 : q.ip.length = 16) (j : Nat) (v : Value) (h0 : q'.ki = q.ki) (h1 : q'.fr = q.fr) (h2 : q'.to = q.to) (h3 : q'.sq = q.sq) (h4 : q'.ca = q.ca) (h5 : q'.ip = q.ip)
    (hs : [Value.int .i64 q.me, .int .i64 q.n, .int .i64 q.co, .slice a q.rs.length c].set j v = [Value.int .i64 q'.me, .int .i64 q'.n, .int .i64 q'.co, .slice a' q'.rs.length c']) : (pkc q a c).set (21 + j) v = pkc q' a' c' := by
  unfold pkc
  rw [List.set_append_right _ _ (by simp; omega), List.set_append_right _ _ (by simp [u8l, h16]; omega)]
  simp only [List.length_cons, List.length_nil, u8l_len, h16]
  rw [show 21 + j - (0 + 1 + 1 + 1 + 1 + 1) - 16 = j by omega, hs, h0, h1, h2, h3, h4, h5]
/-- A GUID stored into the middle. -/
theorem setCells_row : ∀ (vs : List Value) (o g : Nat) (t : TypeId) (cur : List Value) (W : World), W.heap[g]? = some (.cells cur.toArray t (0, 0)) → o + vs.length ≤ cur.length →
    (W.setCells g o vs).heap[g]? = some (.cells (cur.take o ++ vs ++ cur.drop (o + vs.length)).toArray t (0, 0))
  | [], o, g, t, cur, W, h, _ => by simpa [World.setCells] using h
  | v :: vs, o, g, t, cur, W, h, hl => by
    have h1 : (W.setCell ⟨g, o, none⟩ v).heap[g]? = some (.cells (cur.set o v).toArray t (0, 0)) := by
      rw [heap_setCell_same W g o _ _ _ h, List.setIfInBounds_toArray]
    have h2 := setCells_row vs (o + 1) g t (cur.set o v) _ h1 (by simp at hl ⊢; omega)
    rw [World.setCells, h2]
    have ho : o < cur.length := by simp at hl; omega
    congr 3
    rw [List.take_set, List.take_add_one, List.getElem?_eq_getElem ho, List.drop_set_of_lt (by omega)]
    rw [List.set_append_right _ _ (by simp; omega)]
    simp [Nat.min_eq_left (Nat.le_of_lt ho)]
    congr 1
    omega
theorem pkc_setg {q : Pk} {a : Option Addr} {c : Nat} (h16 : q.ip.length = 16) (gs : List Int) (hg : gs.length = 16) : (pkc q a c).take 5 ++ u8l gs ++ (pkc q a c).drop (5 + (u8l gs).length) = pkc { q with ip := gs } a c := by
  have t5 : (pkc q a c).take 5 = [.int .i64 q.ki, .int .i64 q.fr, .int .i64 q.to, .int .u64 q.sq, .int .u64 q.ca] := rfl
  have d5 : (pkc q a c).drop 5 = u8l q.ip ++ [.int .i64 q.me, .int .i64 q.n, .int .i64 q.co, .slice a q.rs.length c] := rfl
  rw [u8l_len, hg, t5, ← List.drop_drop, d5, List.drop_left' (by rw [u8l_len, h16]), List.append_assoc]
  rfl
theorem InP.setg {W : World} {g : Nat} {q : Pk} {a : Option Addr} {c : Nat} (h : InP W g q a c) (h16 : q.ip.length = 16) (gs : List Int) (hg : gs.length = 16) : InP (W.setCells g 5 (u8l gs)) g { q with ip := gs } a c := by
  unfold InP at h ⊢
  have h1 := setCells_row (u8l gs) 5 g _ (pkc q a c) W h (by rw [pkc_len h16, u8l_len, hg]; omega)
  rw [h1, pkc_setg h16 gs hg]
  rfl
theorem Fr.setCells (g : Nat) : ∀ (vs : List Value) (o : Nat) (W : World), Fr (fun j => j = g) W (W.setCells g o vs)
  | [], _, W => Fr.refl _ W
  | v :: vs, o, W => ((Fr.refl (fun j => j = g) W).setCell ⟨g, o, none⟩ v (fun _ => rfl)).trans (fp2 := fun j => j = g) (Fr.setCells g vs (o + 1) _) (fun _ h _ => h)
theorem RwO.frn {W W' : World} {fp : Nat → Prop} {a : Option Addr} {rs : List Orf} (h : RwO W W.heap.size a rs) (hf : Fr fp W W') (hn : ∀ b o, a = some ⟨b, o, none⟩ → ¬ fp b) : RwO W' W'.heap.size a rs :=
  ⟨fun hl => by obtain ⟨b, o, h1, h2⟩ := h.at_ hl; exact ⟨b, o, h1, Nat.lt_of_lt_of_le h2 hf.size⟩, fun b o he i x hx j u hu => by
    obtain ⟨b', o', h1, h2⟩ := h.at_ (by have := (List.getElem?_eq_some_iff.1 hx).1; omega)
    have h3 := h1
    rw [he] at h3; cases h3
    exact (World.cell?_of_block (w := W) (w' := W') (a := ⟨b, o + i * 36 + j, none⟩) (hf.block b h2 (hn b o he))).trans (h.rows b o he i x hx j u hu)⟩
theorem InP.there {W : World} {g : Nat} {q : Pk} {a : Option Addr} {c : Nat} (h : InP W g q a c) (h16 : q.ip.length = 16) (o n : Nat) (hn : o + n ≤ 25) : W.there g o n := fun j hj => by
  have h1 := h.cell (o + j)
  have hl := pkc_len h16 a c
  refine ⟨?_, ?_⟩
  · rw [h1, List.getElem?_eq_getElem (by omega)]; rfl
  · exact frozen_of_row W g (o + j) _ 28 h
/-- Under way: the result's cell, the packet that is being filled, the bytes. -/
structure DSt (w : World) (b : List Int) (bb oo g : Nat) (W : World) (q : Pk) (a : Option Addr) (c : Nat) : Prop where
  hz : InP W w.heap.size pkZ none 0
  hq : InP W g q a c
  hb : Bs W W.heap.size (some ⟨bb, oo, none⟩) b
  hw : Below w.heap.size w W
  hg : w.heap.size < g
  hr : RwO W W.heap.size a q.rs
  hbb : bb < w.heap.size
  ho : ∀ b' o, a = some ⟨b', o, none⟩ → b' ≠ w.heap.size ∧ b' ≠ g
theorem DSt.call {w W W' : World} {b : List Int} {bb oo g : Nat} {q : Pk} {a : Option Addr} {c : Nat} (h : DSt w b bb oo g W q a c) (hB : Below W.heap.size W W') : DSt w b bb oo g W' q a c :=
  ⟨h.hz.below hB, h.hq.below hB, (h.hb.below hB).mono hB.size, below_on h.hw hB, h.hg, h.hr.on hB, h.hbb, h.ho⟩
/-- A field's cell is stored. -/
theorem DSt.put {w W W' : World} {b : List Int} {bb oo g : Nat} {q q' : Pk} {a a' : Option Addr} {c c' : Nat} (h : DSt w b bb oo g W q a c) (hf : Fr (fun j => j = g) W W') (hq : InP W' g q' a' c') (hr : RwO W' W'.heap.size a' q'.rs) (ho : ∀ b' o, a' = some ⟨b', o, none⟩ → b' ≠ w.heap.size ∧ b' ≠ g) : DSt w b bb oo g W' q' a' c' :=
  ⟨h.hz.fr' hf (by have := h.hg; omega), hq, (h.hb.fr hf (fun b' o' he => by cases he; have := h.hg; have := h.hbb; omega)), h.hw.trans (hf.below h.hw.size (fun k hk => by have := h.hg; omega)), h.hg, hr, h.hbb, ho⟩
end Go.Proofs.Ytceeipejhmnkfaa
