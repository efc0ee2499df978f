/- RdRow HpFrame in one -/
import Derived.Test.YtmkajdfajcodjaaRows
import Derived.Test.YtmkajdfajcodjaaRng
import Derived.Lib.SmallJoins
import Derived.ChangeOld
import Derived.Below
import Derived.Carry
import Derived.Deep.Slices
import Derived.Test.YtmkajdfajcodjaaHpI
namespace Go.Proofs.Ytmkajdfajcodjaa
open Go Go.ChangeShapes Go.WideShapes Go.ChangeAt Go.RowKit

theorem list_of {α : Type} (n : Nat) (R : Nat → α → Prop) (h : ∀ i, i < n → ∃ a, R i a) : ∃ l : List α, l.length = n ∧ ∀ (i : Nat) (a : α), l[i]? = some a → R i a := by
  induction n with
  | zero => exact ⟨[], rfl, fun i a h => by simp at h⟩
  | succ n ih =>
    obtain ⟨l, h1, h2⟩ := ih (fun i hi => h i (by omega))
    obtain ⟨a, ha⟩ := h n (by omega)
    refine ⟨l ++ [a], by simp [h1], fun i b hb => ?_⟩
    by_cases e : i < l.length
    · rw [List.getElem?_append_left e] at hb; exact h2 i b hb
    · rw [List.getElem?_append_right (by omega)] at hb
      have hi : i - l.length = 0 := by
        rcases Nat.eq_zero_or_pos (i - l.length) with h' | h'
        · exact h'
        · rw [List.getElem?_eq_none (by simp; omega)] at hb; cases hb
      rw [hi] at hb
      simp at hb
      subst hb
      have : i = n := by omega
      rw [this]; exact ha
theorem mem_at {α : Type} {l : List α} {x : α} (h : x ∈ l) : ∃ i : Nat, l[i]? = some x := List.mem_iff_getElem?.1 h
theorem spot_none {W : World} {a : Addr} {u : Value} (h : W.cell? a = some u) : a.spot = none ∧ a.block < W.heap.size := by
  have h3 := World.block_lt_of_cell? W _ h
  refine ⟨?_, h3⟩
  unfold World.cell? at h
  split at h
  · split at h
    · cases h
    · rename_i hs; simpa using hs
  · cases h
/-- What a slice that was read is. -/
structure RowOf {α : Type} (W : World) (k : Nat) (R : List Value → α → Prop) (ad : Option Addr) (l : List α) (cap : Nat) : Prop where
  at_ : 0 < l.length → ∃ b o, ad = some ⟨b, o, none⟩ ∧ b < W.heap.size
  rows : ∀ b o, ad = some ⟨b, o, none⟩ → ∀ (i : Nat) y, l[i]? = some y → ∃ cs, R cs y ∧ AtL W b (o + i * k) cs
  all : ∀ y ∈ l, ∃ cs, R cs y
  lec : l.length ≤ cap
  mx : cap ≤ 9223372036854775807
theorem read_row {α H : Type} {enc : TypeId × Value → H} {W : World} {base n : Nat} {sp : Nat → Bool} {c : Value} {x : DataW H × List MemPlace} {st e : TypeId} {k : Nat} {R : List Value → α → Prop} (hu : Try.prog.underlying st = some (.slice e)) (hk : Try.prog.cellsOf e = k) (hk0 : 0 < k)
    (rd : ∀ {n : Nat} {cs : List Value} {x : DataW H × List MemPlace}, DataW.trod enc Try.prog W base sp true n e cs = some x → ∃ y, R cs y) (hR : ∀ cs y, R cs y → cs.length = k)
    (h : DataW.trod enc Try.prog W base sp true n st [c] = some x) : ∃ ad l cap, c = .slice ad (List.length l) cap ∧ RowOf W k R ad l cap := by
  rcases Deep.open_slice hu h with ⟨hc, _⟩ | ⟨a, len, cap, m, n', D, Pl, hc, _, hlc, hcm, hm, _, hi⟩
  · simp only [List.cons.injEq, and_true] at hc
    subst hc
    exact ⟨none, [], 0, rfl, (fun h => absurd h (by simp)), (fun b o h => by cases h), (fun y hy => by cases hy), Nat.le_refl _, by omega⟩
  · simp only [List.cons.injEq, and_true] at hc
    subst hc
    have hlm : len ≤ m := by rw [hm]; split <;> omega
    have each : ∀ i, i < len → ∃ y : α, ∃ cs, R cs y ∧ ∀ j u, cs[j]? = some u → W.cell? ((a.add (i * k)).add j) = some u := fun i hil => by
      obtain ⟨cs', h1, h2⟩ := hi i (by omega)
      rw [hk] at h1
      obtain ⟨y, hy⟩ := rd h2
      obtain ⟨_, hlen, hat⟩ := World.cells?_some h1
      refine ⟨y, cs', hy, fun j u hu => ?_⟩
      have hj : j < k := by have := (List.getElem?_eq_some_iff.1 hu).1; rw [hR _ _ hy] at this; exact this
      rw [hat j hj]; exact hu
    obtain ⟨rs, hl, hal⟩ := list_of len _ each
    have hm2 : cap ≤ 9223372036854775807 := by
      have : maxLen = 9223372036854775807 := rfl
      omega
    have hspot : 0 < rs.length → a.spot = none ∧ a.block < W.heap.size := fun hn => by
      obtain ⟨y, cs, h0, h1⟩ := each 0 (by omega)
      have hcs : cs[0]? = some (cs[0]'(by rw [hR _ _ h0]; exact hk0)) := List.getElem?_eq_getElem _
      have h2 := h1 0 _ hcs
      have e : (a.add (0 * k)).add 0 = a := by simp [Addr.add]
      rw [e] at h2
      exact spot_none h2
    refine ⟨some a, rs, cap, by rw [hl], fun hn => ?_, ?_, fun y hy => ?_, by omega, hm2⟩
    · obtain ⟨h1, h2⟩ := hspot hn
      obtain ⟨b, o, s⟩ := a
      simp only at h1 h2
      subst h1
      exact ⟨b, o, rfl, h2⟩
    · rintro b o ha i y hy
      cases ha
      obtain ⟨cs, h1, h2⟩ := hal i y hy
      refine ⟨cs, h1, fun j u hu => ?_⟩
      have h1 := h2 j u hu
      have e : ((⟨b, o, none⟩ : Addr).add (i * k)).add j = ⟨b, o + i * k + j, none⟩ := by
        unfold Addr.add
        by_cases hj0 : j = 0
        · subst hj0
          by_cases hi0 : i * k = 0
          · simp [hi0]
          · simp [hi0]
        · by_cases hi0 : i * k = 0
          · simp [hi0, hj0]
          · simp [hi0, hj0]
      rw [e] at h1
      exact h1
    · obtain ⟨i, hi⟩ := mem_at hy
      obtain ⟨cs, h1, _⟩ := hal i y hi
      exact ⟨cs, h1⟩
end Go.Proofs.Ytmkajdfajcodjaa

namespace Go.Proofs.Ytmkajdfajcodjaa
open Go Go.ChangeShapes Go.WideShapes Go.ChangeAt Go.RowKit

theorem own : ownKnob Try.prog.godebug = none := by kernel_rfl
theorem laidOut : laidOutB Try.prog = true := by kernel_rfl
theorem cells3 : Try.prog.cellsOf 3 = 1 := by kernel_rfl
theorem cells34 : Try.prog.cellsOf 34 = 1 := by kernel_rfl
theorem cells36 : Try.prog.cellsOf 36 = 5 := by kernel_rfl
set_option maxRecDepth 100000 in
/-- An act, read. -/
theorem read_act {H : Type} {enc : TypeId × Value → H} {W : World} {base n : Nat} {sp : Nat → Bool} {cs : List Value} {x : DataW H × List MemPlace} (h : DataW.trod enc Try.prog W base sp true n 36 cs = some x) : ∃ o, cs = acc o ∧ HActOk o := by
  obtain ⟨ys, n', _, _, hl, hn, hf⟩ := DataW.trod_struct Try.underlying36 h
  rw [cells36] at hl
  have hz : ys.length = 5 := hn
  match ys, hz with
  | [y0, y1, y2, y3, y4], _ =>
    have f0 := hf 0 _ rfl
    have f1 := hf 1 _ rfl
    have f2 := hf 2 _ rfl
    have f3 := hf 3 _ rfl
    have f4 := hf 4 _ rfl
    change DataW.trod enc Try.prog W base sp true n' 3 ((cs.drop 0).take (Try.prog.cellsOf 3)) = some y0 at f0
    change DataW.trod enc Try.prog W base sp true n' 3 ((cs.drop 1).take (Try.prog.cellsOf 3)) = some y1 at f1
    change DataW.trod enc Try.prog W base sp true n' 3 ((cs.drop 2).take (Try.prog.cellsOf 3)) = some y2 at f2
    change DataW.trod enc Try.prog W base sp true n' 3 ((cs.drop 3).take (Try.prog.cellsOf 3)) = some y3 at f3
    change DataW.trod enc Try.prog W base sp true n' 34 ((cs.drop 4).take (Try.prog.cellsOf 34)) = some y4 at f4
    rw [cells3] at f0 f1 f2 f3
    rw [cells34] at f4
    match cs, hl with
    | [a, b, c, d, e], _ =>
      obtain ⟨z0, e0, _, w0⟩ := DataW.trod_int Try.underlying3 (x := y0) (by simpa using f0)
      obtain ⟨z1, e1, _, w1⟩ := DataW.trod_int Try.underlying3 (x := y1) (by simpa using f1)
      obtain ⟨z2, e2, _, w2⟩ := DataW.trod_int Try.underlying3 (x := y2) (by simpa using f2)
      obtain ⟨z3, e3, _, w3⟩ := DataW.trod_int Try.underlying3 (x := y3) (by simpa using f3)
      obtain ⟨z4, e4, _, w4⟩ := DataW.trod_int Try.underlying34 (x := y4) (by simpa using f4)
      have b0 := bounds_i64 w0
      have b1 := bounds_i64 w1
      have b2 := bounds_i64 w2
      have b3 := bounds_i64 w3
      have b4 := bounds_u64 w4
      simp at e0 e1 e2 e3 e4
      subst e0 e1 e2 e3 e4
      exact ⟨⟨z0, z1, z2, z3, z4⟩, rfl, b0, b1, b2, b3, b4⟩
set_option maxRecDepth 100000 in
theorem read_int {H : Type} {enc : TypeId × Value → H} {W : World} {base n : Nat} {sp : Nat → Bool} {cs : List Value} {x : DataW H × List MemPlace} (h : DataW.trod enc Try.prog W base sp true n 3 cs = some x) : ∃ z : Int, cs = [.int .i64 z] ∧ Nm z := by
  obtain ⟨z, e, _, w⟩ := DataW.trod_int Try.underlying3 h
  exact ⟨z, e, bounds_i64 w⟩
set_option maxRecDepth 100000 in
/-- Acts that came in. -/
theorem open_acts {H : Type} {enc : TypeId × Value → H} {W : World} {r : Reach} {b0 : Nat} {v : Value} {d : DataW H} {p : List MemPlace}
    (hv : Value.okWide Try.prog W r b0 23 v) (h : DataW.Trod enc Try.prog W 0 (fun _ => true) true 23 v d p) : ∃ (ad : Option Addr) (l : List HAct) (cap : Nat), v = .slice ad (List.length l) cap ∧ RwH W W.heap.size ad l ∧ l.length ≤ 9223372036854775807 := by
  obtain ⟨a, len, cap, rfl⟩ := okWide_slice Try.underlying23 hv
  obtain ⟨fuel, hf⟩ := h
  obtain ⟨ad, l, cap', hc, hr⟩ := read_row (R := fun cs y => cs = acc y ∧ HActOk y) Try.underlying23 cells36 (by decide) (fun h => read_act h) (fun cs y h => by rw [h.1]; rfl) (by simpa [Value.cells] using hf)
  cases hc
  refine ⟨_, _, _, rfl, ⟨hr.at_, fun b o he i x hx => ?_, fun x hx => ?_⟩, Nat.le_trans hr.lec hr.mx⟩
  · obtain ⟨cs, ⟨rfl, _⟩, h2⟩ := hr.rows b o he i x hx
    exact h2
  · obtain ⟨cs, _, h2⟩ := hr.all x hx
    exact h2
set_option maxRecDepth 100000 in
/-- Numbers that came in. -/
theorem open_ints {H : Type} {enc : TypeId × Value → H} {W : World} {r : Reach} {b0 : Nat} {v : Value} {d : DataW H} {p : List MemPlace}
    (hv : Value.okWide Try.prog W r b0 57 v) (h : DataW.Trod enc Try.prog W 0 (fun _ => true) true 57 v d p) : ∃ (ad : Option Addr) (l : List Int) (cap : Nat), v = .slice ad (List.length l) cap ∧ RwZ W W.heap.size ad l ∧ l.length ≤ 9223372036854775807 := by
  obtain ⟨a, len, cap, rfl⟩ := okWide_slice Try.underlying57 hv
  obtain ⟨fuel, hf⟩ := h
  obtain ⟨ad, l, cap', hc, hr⟩ := read_row (R := fun cs y => cs = [.int .i64 y] ∧ Nm y) Try.underlying57 cells3 (by decide) (fun h => read_int h) (fun cs y h => by rw [h.1]; rfl) (by simpa [Value.cells] using hf)
  cases hc
  refine ⟨_, _, _, rfl, ⟨hr.at_, fun b o he i x hx => ?_, fun x hx => ?_⟩, Nat.le_trans hr.lec hr.mx⟩
  · obtain ⟨cs, ⟨rfl, _⟩, h2⟩ := hr.rows b o he i x hx
    have := h2 0 _ rfl
    rw [Nat.mul_one] at this
    exact this
  · obtain ⟨cs, _, h2⟩ := hr.all x hx
    exact h2
theorem cells67 : Try.prog.cellsOf 67 = 2 := by kernel_rfl
theorem okWide_str {P : Program} {w : World} {r : Reach} {base : Nat} {t : TypeId} {v : Value} {fs : Array Field} (ht : P.underlying t = some (.struct fs)) (h : Value.okWide P w r base t v) : ∃ cs, v = .agg cs ∧ cs.size = P.cellsOf t := by
  simp only [Value.okWide, ht] at h
  obtain ⟨cs, h1, h2, _⟩ := h
  exact ⟨cs, h1, h2⟩
set_option maxRecDepth 100000 in
/-- A link that came in. -/
theorem open_link {H : Type} {enc : TypeId × Value → H} {W : World} {r : Reach} {b0 : Nat} {v : Value} {d : DataW H} {p : List MemPlace}
    (hv : Value.okWide Try.prog W r b0 67 v) (h : DataW.Trod enc Try.prog W 0 (fun _ => true) true 67 v d p) : ∃ x : Lk, v = .agg #[.int .i64 x.kind, .int .u64 x.h] ∧ Nm x.kind ∧ Hn x.h := by
  obtain ⟨cs, rfl, _⟩ := okWide_str Try.underlying67 hv
  obtain ⟨fuel, hf⟩ := h
  obtain ⟨ys, n', _, _, hl, hn, hfl⟩ := DataW.trod_struct Try.underlying67 hf
  rw [cells67] at hl
  simp only [Value.cells] at hl
  have hz : ys.length = 2 := hn
  match ys, hz with
  | [y0, y1], _ =>
    have f0 := hfl 0 _ rfl
    have f1 := hfl 1 _ rfl
    simp only [Value.cells] at f0 f1
    change DataW.trod enc Try.prog W 0 (fun _ => true) true n' 3 ((cs.toList.drop 0).take (Try.prog.cellsOf 3)) = some y0 at f0
    change DataW.trod enc Try.prog W 0 (fun _ => true) true n' 34 ((cs.toList.drop 1).take (Try.prog.cellsOf 34)) = some y1 at f1
    rw [cells3] at f0
    rw [cells34] at f1
    have hcs : ∃ a b, cs = #[a, b] := by
      obtain ⟨l⟩ := cs
      match l, hl with
      | [a, b], _ => exact ⟨a, b, rfl⟩
    obtain ⟨a, b, rfl⟩ := hcs
    obtain ⟨z0, e0, _, w0⟩ := DataW.trod_int Try.underlying3 (x := y0) (by simpa using f0)
    obtain ⟨z1, e1, _, w1⟩ := DataW.trod_int Try.underlying34 (x := y1) (by simpa using f1)
    simp at e0 e1
    subst e0 e1
    exact ⟨⟨z0, z1⟩, rfl, bounds_i64 w0, bounds_u64 w1⟩
end Go.Proofs.Ytmkajdfajcodjaa
