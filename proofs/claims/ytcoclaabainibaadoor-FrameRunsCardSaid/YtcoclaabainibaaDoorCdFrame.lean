/-
  What the laws' rows ask: instructions that came in.
-/
import Derived.Test.YtcoclaabainibaaDoorRows
import Derived.Test.YtcoclaabainibaaDoorCdB
import Derived.Lib.SmallJoins
import Derived.ChangeOld
import Derived.Below
import Derived.Carry
import Derived.Deep.Slices
namespace Go.Proofs.YtcoclaabainibaaDoor
open Go Go.ChangeShapes Go.WideShapes Go.ChangeAt Go.RowKit

theorem own : ownKnob Tryd.prog.godebug = none := by kernel_rfl
theorem laidOut : laidOutB Tryd.prog = true := by kernel_rfl
theorem cells3 : Tryd.prog.cellsOf 3 = 1 := by kernel_rfl
theorem cells45 : Tryd.prog.cellsOf 45 = 3 := by kernel_rfl
theorem list_of {α : Type} (n : Nat) (R : Nat → α → Prop) (h : ∀ i, i < n → ∃ a, R i a) : ∃ l : List α, l.length = n ∧ ∀ (i : Nat) (a : α), l[i]? = some a → R i a := by
  induction n with
  | zero => exact ⟨[], rfl, fun i a h => by simp at h⟩
  | succ n ih =>
    obtain ⟨l, h1, h2⟩ := ih (fun i hi => h i (by omega))
    obtain ⟨a, ha⟩ := h n (by omega)
    refine ⟨l ++ [a], by simp [h1], fun i b hb => ?_⟩
    by_cases e : i < l.length
    · rw [List.getElem?_append_left e] at hb; exact h2 i b hb
    · rw [List.getElem?_append_right (by omega)] at hb
      have hi : i - l.length = 0 := by
        rcases Nat.eq_zero_or_pos (i - l.length) with h' | h'
        · exact h'
        · rw [List.getElem?_eq_none (by simp; omega)] at hb; cases hb
      rw [hi] at hb
      simp at hb
      subst hb
      have : i = n := by omega
      rw [this]; exact ha
theorem mem_at {α : Type} {l : List α} {x : α} (h : x ∈ l) : ∃ i : Nat, l[i]? = some x := List.mem_iff_getElem?.1 h
theorem spot_of {W : World} {a : Addr} {u : Value} (h : W.cell? a = some u) : a.spot = none ∧ a.block < W.heap.size := by
  have h3 := World.block_lt_of_cell? W _ h
  refine ⟨?_, h3⟩
  unfold World.cell? at h
  split at h
  · split at h
    · cases h
    · rename_i hs; simpa using hs
  · cases h
set_option maxRecDepth 100000 in
/-- An instruction, read. -/
theorem read_ins {H : Type} {enc : TypeId × Value → H} {W : World} {base n : Nat} {sp : Nat → Bool} {cs : List Value} {x : DataW H × List MemPlace} (h : DataW.trod enc Tryd.prog W base sp true n 45 cs = some x) : ∃ o, cs = insc o ∧ InsOk o := by
  obtain ⟨ys, n', _, _, hl, hn, hf⟩ := DataW.trod_struct Tryd.underlying45 h
  rw [cells45] at hl
  have hz : ys.length = 3 := hn
  match ys, hz with
  | [y0, y1, y2], _ =>
    have f0 := hf 0 _ rfl
    have f1 := hf 1 _ rfl
    have f2 := hf 2 _ rfl
    change DataW.trod enc Tryd.prog W base sp true n' 3 ((cs.drop 0).take (Tryd.prog.cellsOf 3)) = some y0 at f0
    change DataW.trod enc Tryd.prog W base sp true n' 3 ((cs.drop 1).take (Tryd.prog.cellsOf 3)) = some y1 at f1
    change DataW.trod enc Tryd.prog W base sp true n' 3 ((cs.drop 2).take (Tryd.prog.cellsOf 3)) = some y2 at f2
    rw [cells3] at f0 f1 f2
    match cs, hl with
    | [a, b, c], _ =>
      obtain ⟨z0, e0, _, w0⟩ := DataW.trod_int Tryd.underlying3 (x := y0) (by simpa using f0)
      obtain ⟨z1, e1, _, w1⟩ := DataW.trod_int Tryd.underlying3 (x := y1) (by simpa using f1)
      obtain ⟨z2, e2, _, w2⟩ := DataW.trod_int Tryd.underlying3 (x := y2) (by simpa using f2)
      have b0 := bounds_i64 w0
      have b1 := bounds_i64 w1
      have b2 := bounds_i64 w2
      simp at e0 e1 e2
      subst e0 e1 e2
      exact ⟨⟨z0, z1, z2⟩, rfl, ⟨b0, b1, b2⟩⟩
set_option maxRecDepth 100000 in
/-- A row of instructions, read. -/
theorem read_instrs {H : Type} {enc : TypeId × Value → H} {W : World} {base n : Nat} {sp : Nat → Bool} {c : Value} {x : DataW H × List MemPlace} (h : DataW.trod enc Tryd.prog W base sp true n 22 [c] = some x) :
    ∃ (ad : Option Addr) (rs : List Ins) (cap : Nat), c = .slice ad rs.length cap ∧ RwI W W.heap.size ad rs ∧ rs.length ≤ cap ∧ cap ≤ 9223372036854775807 ∧ ∀ y ∈ rs, InsOk y := by
  rcases Deep.open_slice Tryd.underlying22 h with ⟨hc, _⟩ | ⟨a, len, cap, m, n', D, Pl, hc, _, hlc, hcm, hm, _, hi⟩
  · simp only [List.cons.injEq, and_true] at hc
    subst hc
    exact ⟨none, [], 0, rfl, ⟨fun h => absurd h (by simp), fun b o h => by cases h⟩, Nat.le_refl _, by omega, fun y hy => by cases hy⟩
  · simp only [List.cons.injEq, and_true] at hc
    subst hc
    have hlm : len ≤ m := by rw [hm]; split <;> omega
    have each : ∀ i, i < len → ∃ y : Ins, (∀ j u, (insc y)[j]? = some u → W.cell? ((a.add (i * 3)).add j) = some u) ∧ InsOk y := fun i hil => by
      obtain ⟨cs', h1, h2⟩ := hi i (by omega)
      rw [cells45] at h1
      obtain ⟨y, rfl, hy⟩ := read_ins h2
      obtain ⟨_, hlen, hat⟩ := World.cells?_some h1
      refine ⟨y, fun j u hu => ?_, hy⟩
      have hj : j < 3 := (List.getElem?_eq_some_iff.1 hu).1
      rw [hat j hj]; exact hu
    obtain ⟨rs, hl, hal⟩ := list_of len _ each
    have hm2 : cap ≤ 9223372036854775807 := by
      have : maxLen = 9223372036854775807 := rfl
      omega
    have hspot : 0 < rs.length → a.spot = none ∧ a.block < W.heap.size := fun hn => by
      obtain ⟨y, h1, _⟩ := each 0 (by omega)
      have h2 := h1 0 _ rfl
      have e : (a.add (0 * 3)).add 0 = a := by simp [Addr.add]
      rw [e] at h2
      exact spot_of h2
    refine ⟨some a, rs, cap, by rw [hl], ⟨fun hn => ?_, ?_⟩, by omega, hm2, fun y hy => ?_⟩
    · obtain ⟨h1, h2⟩ := hspot hn
      obtain ⟨b, o, s⟩ := a
      simp only at h1 h2
      subst h1
      exact ⟨b, o, rfl, h2⟩
    · rintro b o ha i y hy j u hu
      cases ha
      have h1 := (hal i y hy).1 j u hu
      have e : ((⟨b, o, none⟩ : Addr).add (i * 3)).add j = ⟨b, o + i * 3 + j, none⟩ := by
        unfold Addr.add
        by_cases hj0 : j = 0
        · subst hj0
          by_cases hi0 : i * 3 = 0
          · simp [hi0]
          · simp [hi0]
        · by_cases hi0 : i * 3 = 0
          · simp [hi0, hj0]
          · simp [hi0, hj0]
      rw [e] at h1
      exact h1
    · obtain ⟨i, hi⟩ := mem_at hy
      exact (hal i y hi).2
set_option maxRecDepth 100000 in
/-- A row of instructions that came in. -/
theorem open_instrs {H : Type} {enc : TypeId × Value → H} {W : World} {r : Reach} {b0 : Nat} {v : Value} {d : DataW H} {p : List MemPlace}
    (hv : Value.okWide Tryd.prog W r b0 22 v) (h : DataW.Trod enc Tryd.prog W 0 (fun _ => true) true 22 v d p) : ∃ (ad : Option Addr) (l : List Ins) (cap : Nat), v = .slice ad (List.length l) cap ∧ (∀ y ∈ l, InsOk y) ∧ RwI W W.heap.size ad l ∧ l.length ≤ cap ∧ cap ≤ 9223372036854775807 := by
  obtain ⟨a, len, cap, rfl⟩ := okWide_slice Tryd.underlying22 hv
  obtain ⟨fuel, hf⟩ := h
  obtain ⟨ad, xs, cap', hc, h1, h2, h3, h4⟩ := read_instrs (by simpa [Value.cells] using hf)
  cases hc
  exact ⟨_, _, _, rfl, h4, h1, h2, h3⟩
end Go.Proofs.YtcoclaabainibaaDoor
