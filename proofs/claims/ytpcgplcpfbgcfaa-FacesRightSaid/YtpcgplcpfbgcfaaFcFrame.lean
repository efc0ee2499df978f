/-
  What the laws' rows ask: rows of faces and a GUID that came in.
-/
import Derived.Test.YtpcgplcpfbgcfaaRows
import Derived.Test.YtpcgplcpfbgcfaaFcA
import Derived.Lib.SmallJoins
import Derived.ChangeOld
import Derived.Below
import Derived.Carry
import Derived.Deep.Slices
namespace Go.Proofs.Ytpcgplcpfbgcfaa
open Go.ChangeShapes Go.WideShapes Go.ChangeAt Go.RowKit

theorem own : ownKnob Try.prog.godebug = none := by kernel_rfl
theorem laidOut : laidOutB Try.prog = true := by kernel_rfl
theorem cells5 : Try.prog.cellsOf 5 = 1 := by kernel_rfl
theorem cells3 : Try.prog.cellsOf 3 = 1 := by kernel_rfl
theorem cells28 : Try.prog.cellsOf 28 = 16 := by kernel_rfl
theorem cells30 : Try.prog.cellsOf 30 = 17 := by kernel_rfl
theorem list_of {α : Type} (n : Nat) (R : Nat → α → Prop) (h : ∀ i, i < n → ∃ a, R i a) : ∃ l : List α, l.length = n ∧ ∀ (i : Nat) (a : α), l[i]? = some a → R i a := by
  induction n with
  | zero => exact ⟨[], rfl, fun i a h => by simp at h⟩
  | succ n ih =>
    obtain ⟨l, h1, h2⟩ := ih (fun i hi => h i (by omega))
    obtain ⟨a, ha⟩ := h n (by omega)
    refine ⟨l ++ [a], by simp [h1], fun i b hb => ?_⟩
    by_cases e : i < l.length
    · rw [List.getElem?_append_left e] at hb; exact h2 i b hb
    · rw [List.getElem?_append_right (by omega)] at hb
      have hi : i - l.length = 0 := by
        rcases Nat.eq_zero_or_pos (i - l.length) with h' | h'
        · exact h'
        · rw [List.getElem?_eq_none (by simp; omega)] at hb; cases hb
      rw [hi] at hb
      simp at hb
      subst hb
      have : i = n := by omega
      rw [this]; exact ha
set_option maxRecDepth 100000 in
/-- One GUID, read. -/
theorem read_guid {H : Type} {enc : TypeId × Value → H} {W : World} {base n : Nat} {sp : Nat → Bool} {cs : List Value} {x : DataW H × List MemPlace} (h : DataW.trod enc Try.prog W base sp true n 28 cs = some x) :
    ∃ y : List Int, cs = (u8s y).toList ∧ y.length = 16 := by
  obtain ⟨ys, m, _, _, hl, hn, hi⟩ := DataW.trod_array Try.underlying28 h
  rw [cells5] at hi
  rw [cells28] at hl
  have each : ∀ i, i < 16 → ∃ n : Int, cs[i]? = some (.int .u8 n) := fun i h16 => by
    have h1 := hi i h16
    rw [List.getElem?_eq_getElem (by omega)] at h1
    obtain ⟨n, hc, _, hw⟩ := DataW.trod_int Try.underlying5 h1
    refine ⟨n, ?_⟩
    have h2 : ((cs.drop (i * 1)).take 1)[0]? = some (.int .u8 n) := by rw [hc]; rfl
    simpa using h2
  obtain ⟨y, h1, h2⟩ := list_of 16 _ each
  refine ⟨y, List.ext_getElem? fun i => ?_, h1⟩
  by_cases h16 : i < 16
  · have h3 : y[i]? = some y[i] := List.getElem?_eq_getElem (by omega)
    rw [h2 i _ h3]
    simp [u8s, h3]
  · rw [List.getElem?_eq_none (by omega), List.getElem?_eq_none (by simp [u8s]; omega)]
set_option maxRecDepth 100000 in
/-- One face, read. -/
theorem read_face {H : Type} {enc : TypeId × Value → H} {W : World} {base n : Nat} {sp : Nat → Bool} {cs : List Value} {x : DataW H × List MemPlace} (h : DataW.trod enc Try.prog W base sp true n 30 cs = some x) :
    ∃ f : Face, cs = fcl f ∧ f.id.length = 16 ∧ I64 f.base := by
  obtain ⟨ys, n', _, _, hl, hn, hf⟩ := DataW.trod_struct Try.underlying30 h
  rw [cells30] at hl
  have f0 := hf 0 _ rfl
  have f1 := hf 1 _ rfl
  have hz : ys.length = 2 := hn
  match ys, hz with
  | [y0, y1], _ =>
    change DataW.trod enc Try.prog W base sp true n' 28 ((cs.drop 0).take (Try.prog.cellsOf 28)) = some y0 at f0
    change DataW.trod enc Try.prog W base sp true n' 3 ((cs.drop 16).take (Try.prog.cellsOf 3)) = some y1 at f1
    rw [cells28] at f0
    rw [cells3] at f1
    obtain ⟨y, e0, h16⟩ := read_guid f0
    obtain ⟨b, e1, _, w1⟩ := DataW.trod_int Try.underlying3 f1
    refine ⟨⟨y, b⟩, ?_, h16, bounds_i64 w1⟩
    have h2 : cs = (cs.drop 0).take 16 ++ (cs.drop 16).take 1 := by
      rw [List.drop_zero]
      conv => lhs; rw [← List.take_append_drop 16 cs]
      congr 1
      rw [List.take_of_length_le (by simp; omega)]
    rw [h2, e0, e1]
    simp [fcl, u8l, u8s]
theorem add_block (a : Addr) (n : Nat) : (a.add n).block = a.block := by unfold Addr.add; split <;> rfl
set_option maxRecDepth 100000 in
/-- A row of faces that came in. -/
theorem open_faces {H : Type} {enc : TypeId × Value → H} {W : World} {r : Reach} {b0 : Nat} {v : Value} {d : DataW H} {p : List MemPlace}
    (hv : Value.okWide Try.prog W r b0 22 v) (h : DataW.Trod enc Try.prog W 0 (fun _ => true) true 22 v d p) : ∃ ad l cap, v = .slice ad (List.length l) cap ∧ FRow W W.heap.size ad l ∧ (l.length ≤ cap ∧ cap ≤ 9223372036854775807 ∧ (ad = none → cap = 0)) := by
  obtain ⟨a, len, cap, rfl⟩ := okWide_slice Try.underlying22 hv
  obtain ⟨fuel, hf⟩ := h
  rcases Deep.open_slice Try.underlying22 hf with ⟨hc, _⟩ | ⟨a', len', cap', m, n, D, Pl, hc, _, hlc, hcm, hm, _, hi⟩
  · simp [Value.cells] at hc
    obtain ⟨rfl, rfl, rfl⟩ := hc
    exact ⟨none, [], 0, rfl, ⟨fun h => absurd h (by simp), (fun b o h => by cases h), (fun x h => by cases h), (fun x h => by cases h)⟩, by simp⟩
  · simp [Value.cells] at hc
    obtain ⟨rfl, rfl, rfl⟩ := hc
    simp only [if_true] at hm
    have each : ∀ i, i < len → ∃ f : Face, (∀ j, j < 17 → W.cell? ((a'.add (i * 17)).add j) = (fcl f)[j]?) ∧ f.id.length = 16 ∧ I64 f.base := fun i hil => by
      obtain ⟨cs, h1, h2⟩ := hi i (by omega)
      rw [cells30] at h1
      obtain ⟨f, rfl, hf⟩ := read_face h2
      obtain ⟨_, _, hat⟩ := World.cells?_some h1
      exact ⟨f, hat, hf⟩
    obtain ⟨l, hl, hal⟩ := list_of len _ each
    have hm2 : cap ≤ 9223372036854775807 := by
      have : maxLen = 9223372036854775807 := rfl
      omega
    have hspot : 0 < l.length → a'.spot = none ∧ a'.block < W.heap.size := fun hn => by
      obtain ⟨f, hy, h16, _⟩ := each 0 (by omega)
      have h1 := hy 0 (by omega)
      have h0 : 0 < (fcl f).length := by rw [fcl_len h16]; omega
      rw [List.getElem?_eq_getElem h0] at h1
      have h3 := World.block_lt_of_cell? W _ h1
      have e : (a'.add (0 * 17)).add 0 = a' := by simp [Addr.add]
      rw [e] at h1 h3
      refine ⟨?_, h3⟩
      unfold World.cell? at h1
      split at h1
      · split at h1
        · cases h1
        · rename_i hs; simpa using hs
      · cases h1
    refine ⟨some a', l, cap, by rw [hl], ⟨fun hn => ?_, ?_, ?_, ?_⟩, by omega, hm2, fun h => by cases h⟩
    · obtain ⟨h1, h2⟩ := hspot hn
      obtain ⟨b, o, s⟩ := a'
      simp only at h1 h2
      subst h1
      exact ⟨b, o, rfl, h2⟩
    · rintro b o ha i f hff j u huu
      cases ha
      obtain ⟨h1, h2, _⟩ := hal i f hff
      have hj : j < 17 := by
        have := (List.getElem?_eq_some_iff.1 huu).1
        rw [fcl_len h2] at this; exact this
      have h3 := h1 j hj
      rw [huu] at h3
      have e : ((⟨b, o, none⟩ : Addr).add (i * 17)).add j = ⟨b, o + i * 17 + j, none⟩ := by
        unfold Addr.add
        by_cases hj0 : j = 0
        · subst hj0
          by_cases hi0 : i * 17 = 0
          · simp [hi0]
          · simp [hi0]
        · by_cases hi0 : i * 17 = 0
          · simp [hi0, hj0]
          · simp [hi0, hj0]
      rw [e] at h3
      exact h3
    · intro f hf
      obtain ⟨i, hi⟩ := List.mem_iff_getElem?.1 hf
      exact (hal i f hi).2.1
    · intro f hf
      obtain ⟨i, hi⟩ := List.mem_iff_getElem?.1 hf
      exact (hal i f hi).2.2
theorem okWide_arr {P : Program} {w : World} {r : Reach} {base : Nat} {t : TypeId} {v : Value} {n : Nat} {e : TypeId} (ht : P.underlying t = some (.array n e)) (h : Value.okWide P w r base t v) : ∃ cs, v = .agg cs ∧ cs.size = P.cellsOf t := by
  simp only [Value.okWide, ht] at h
  obtain ⟨cs, h1, h2, _⟩ := h
  exact ⟨cs, h1, h2⟩
set_option maxRecDepth 100000 in
/-- A GUID that came in. -/
theorem open_guid {H : Type} {enc : TypeId × Value → H} {W : World} {r : Reach} {b0 : Nat} {v : Value} {d : DataW H} {p : List MemPlace}
    (hv : Value.okWide Try.prog W r b0 28 v) (h : DataW.Trod enc Try.prog W 0 (fun _ => true) true 28 v d p) : ∃ xs, v = .agg (u8s xs) ∧ xs.length = 16 := by
  obtain ⟨cs, rfl, hsz⟩ := okWide_arr Try.underlying28 hv
  obtain ⟨fuel, hf⟩ := h
  obtain ⟨y, hy, h16⟩ := read_guid hf
  refine ⟨y, ?_, h16⟩
  congr 1
  apply Array.ext'
  simpa [Value.cells] using hy
end Go.Proofs.Ytpcgplcpfbgcfaa
