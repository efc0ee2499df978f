/-
  What the laws' rows ask: Objrefs and bytes that came in.
-/
import Derived.Test.YtceeipejhmnkfaaRows
import Derived.Test.YtceeipejhmnkfaaObA
import Derived.Lib.SmallJoins
import Derived.ChangeOld
import Derived.Below
import Derived.Carry
import Derived.Deep.Slices
namespace Go.Proofs.Ytceeipejhmnkfaa
open Go Go.ChangeShapes Go.WideShapes Go.ChangeAt Go.RowKit

theorem own : ownKnob Try.prog.godebug = none := by kernel_rfl
theorem laidOut : laidOutB Try.prog = true := by kernel_rfl
theorem cells5 : Try.prog.cellsOf 5 = 1 := by kernel_rfl
theorem bytes5 : Try.prog.bytesOf 5 = 1 := by kernel_rfl
theorem cells56 : Try.prog.cellsOf 56 = 1 := by kernel_rfl
theorem cells22 : Try.prog.cellsOf 22 = 1 := by kernel_rfl
theorem cells24 : Try.prog.cellsOf 24 = 16 := by kernel_rfl
theorem cells58 : Try.prog.cellsOf 58 = 36 := by kernel_rfl
theorem list_of {α : Type} (n : Nat) (R : Nat → α → Prop) (h : ∀ i, i < n → ∃ a, R i a) : ∃ l : List α, l.length = n ∧ ∀ (i : Nat) (a : α), l[i]? = some a → R i a := by
  induction n with
  | zero => exact ⟨[], rfl, fun i a h => by simp at h⟩
  | succ n ih =>
    obtain ⟨l, h1, h2⟩ := ih (fun i hi => h i (by omega))
    obtain ⟨a, ha⟩ := h n (by omega)
    refine ⟨l ++ [a], by simp [h1], fun i b hb => ?_⟩
    by_cases e : i < l.length
    · rw [List.getElem?_append_left e] at hb; exact h2 i b hb
    · rw [List.getElem?_append_right (by omega)] at hb
      have hi : i - l.length = 0 := by
        rcases Nat.eq_zero_or_pos (i - l.length) with h' | h'
        · exact h'
        · rw [List.getElem?_eq_none (by simp; omega)] at hb; cases hb
      rw [hi] at hb
      simp at hb
      subst hb
      have : i = n := by omega
      rw [this]; exact ha
theorem len_bulk {H : Type} : ∀ l : List (DataW H), l.length ≤ Rows.uptoBulkAll l
  | [] => by simp [Rows.uptoBulkAll]
  | d :: l => by
    have h := len_bulk l
    have h1 : 1 ≤ Rows.uptoBulk d := by
      cases d with
      | lit l => cases l <;> simp [Rows.uptoBulk]
      | _ => simp [Rows.uptoBulk]
    simp only [Rows.uptoBulkAll, List.length_cons]
    omega
theorem mem_at {α : Type} {l : List α} {x : α} (h : x ∈ l) : ∃ i : Nat, l[i]? = some x := List.mem_iff_getElem?.1 h
set_option maxRecDepth 100000 in
/-- Bytes, read. -/
theorem read_bytes {H : Type} {enc : TypeId × Value → H} {W : World} {base n : Nat} {sp : Nat → Bool} {c : Value} {x : DataW H × List MemPlace} (h : DataW.trod enc Try.prog W base sp true n 30 [c] = some x) :
    ∃ (ad : Option Addr) (xs : List Int) (cap : Nat), c = .slice ad xs.length cap ∧ Bs W W.heap.size ad xs ∧ (ad = none → cap = 0 ∧ xs.length = 0) ∧ xs.length ≤ cap ∧ cap ≤ 9223372036854775807 ∧ Byt xs ∧ xs.length ≤ Rows.uptoBulk x.1 ∧ (xs.length = 0 ∨ ∃ el sp, x.1 = .slice el sp ∧ el.length = xs.length) := by
  rcases Deep.open_slice1 Try.underlying30 cells5 h with ⟨hc, _⟩ | ⟨a, len, cap, m, n', V, D, Pl, hc, _, hlc, hcm, hm, hxx, hi⟩
  · simp only [List.cons.injEq, and_true] at hc
    subst hc
    exact ⟨none, [], 0, rfl, Bs.nil _ _ _, fun _ => ⟨rfl, rfl⟩, Nat.le_refl _, by omega, fun x hx => by simp at hx, by simp, .inl rfl⟩
  · simp only [List.cons.injEq, and_true] at hc
    subst hc
    have hlm : len ≤ m := by rw [hm]; split <;> omega
    have each : ∀ i, i < len → ∃ z : Int, W.cell? (a.add i) = some (.int .u8 z) ∧ 0 ≤ z ∧ z ≤ 255 := fun i hil => by
      obtain ⟨h1, h2⟩ := hi i (by omega)
      obtain ⟨z, hz, _, hw⟩ := DataW.trod_int Try.underlying5 h2
      simp only [List.cons.injEq, and_true] at hz
      rw [hz] at h1
      exact ⟨z, h1, bounds_u8 hw⟩
    obtain ⟨xs, hl, hal⟩ := list_of len _ each
    have hm2 : cap ≤ 9223372036854775807 := by
      have : maxLen = 9223372036854775807 := rfl
      omega
    have hspot : 0 < xs.length → a.spot = none ∧ a.block < W.heap.size := fun hn => by
      obtain ⟨z, h1, _⟩ := each 0 (by omega)
      have e : a.add 0 = a := by simp [Addr.add]
      rw [e] at h1
      have h3 := World.block_lt_of_cell? W _ h1
      refine ⟨?_, h3⟩
      unfold World.cell? at h1
      split at h1
      · split at h1
        · cases h1
        · rename_i hs; simpa using hs
      · cases h1
    refine ⟨some a, xs, cap, by rw [hl], ⟨fun hn => ?_, ?_⟩, (fun h => by cases h), by omega, hm2, fun x hx => ?_, ?_, .inr ⟨_, _, by rw [hxx], by simp [hl]⟩⟩
    · obtain ⟨h1, h2⟩ := hspot hn
      obtain ⟨b, o, s⟩ := a
      simp only at h1 h2
      subst h1
      exact ⟨b, o, rfl, h2⟩
    · rintro b o ha j v hv
      cases ha
      have hj : j < xs.length := by
        have := (List.getElem?_eq_some_iff.1 hv).1
        simpa [u8l] using this
      rw [u8l_at hj] at hv
      cases hv
      have h1 := (hal j _ (getD_at hj)).1
      cases j with
      | zero => simpa [Addr.add] using h1
      | succ j => simpa [Addr.add] using h1
    · obtain ⟨i, hi⟩ := mem_at hx
      exact (hal i x hi).2
    · have h1 := len_bulk ((List.range len).map D)
      rw [hxx]
      simp only [Rows.uptoBulk, List.length_map, List.length_range] at h1 ⊢
      omega
set_option maxRecDepth 100000 in
/-- A row of bytes that came in. -/
theorem open_bytes {H : Type} {enc : TypeId × Value → H} {W : World} {r : Reach} {b0 : Nat} {v : Value} {d : DataW H} {p : List MemPlace}
    (hv : Value.okWide Try.prog W r b0 30 v) (h : DataW.Trod enc Try.prog W 0 (fun _ => true) true 30 v d p) : ∃ ad l cap, v = .slice ad (List.length l) cap ∧ Bs W W.heap.size ad l ∧ ((ad = none → cap = 0 ∧ l.length = 0) ∧ l.length ≤ cap ∧ cap ≤ 9223372036854775807 ∧ Byt l) ∧ l.length ≤ Rows.uptoBulk d ∧ (l.length = 0 ∨ ∃ el sp, d = .slice el sp ∧ el.length = l.length) := by
  obtain ⟨a, len, cap, rfl⟩ := okWide_slice Try.underlying30 hv
  obtain ⟨fuel, hf⟩ := h
  obtain ⟨ad, xs, cap', hc, h1, h2, h3, h4, h5, h6, h7⟩ := read_bytes (by simpa [Value.cells] using hf)
  cases hc
  exact ⟨_, _, _, rfl, h1, ⟨h2, h3, h4, h5⟩, h6, h7⟩
set_option maxRecDepth 100000 in
/-- Sixteen bytes, read. -/
theorem read_guid {H : Type} {enc : TypeId × Value → H} {W : World} {base n : Nat} {sp : Nat → Bool} {cs : List Value} {x : DataW H × List MemPlace} (h : DataW.trod enc Try.prog W base sp true n 24 cs = some x) : ∃ xs, cs = u8l xs ∧ IsG xs := by
  obtain ⟨ys, m, _, _, hl, hn, hi⟩ := DataW.trod_array Try.underlying24 h
  rw [cells5] at hi
  rw [cells24] at hl
  have each : ∀ i, i < 16 → ∃ n : Int, cs[i]? = some (.int .u8 n) ∧ 0 ≤ n ∧ n ≤ 255 := fun i h16 => by
    have h1 := hi i h16
    rw [List.getElem?_eq_getElem (by omega)] at h1
    obtain ⟨n, hc, _, hw⟩ := DataW.trod_int Try.underlying5 h1
    refine ⟨n, ?_, bounds_u8 hw⟩
    have h2 : (((cs.drop (i * 1)).take 1))[0]? = some (.int .u8 n) := by rw [hc]; rfl
    simpa using h2
  obtain ⟨xs, hxl, hxa⟩ := list_of 16 _ each
  have hbt : Byt xs := fun z hz => by
    obtain ⟨i, hi⟩ := mem_at hz
    exact (hxa i z hi).2
  refine ⟨xs, ?_, ⟨hxl, fun j => (getD_byt hbt j).1, fun j => (getD_byt hbt j).2⟩⟩
  apply List.ext_getElem?
  intro i
  by_cases h16 : i < 16
  · rw [u8l_at (by omega), (hxa i _ (getD_at (by omega))).1]
  · rw [List.getElem?_eq_none (by omega), List.getElem?_eq_none (by rw [u8l_len]; omega)]
theorem list36 {α : Type} {cs : List α} (h : cs.length = 36) : ∃ a b c d e f, cs = [a, b, c, d] ++ (e ++ f) ∧ e = (cs.drop 4).take 16 ∧ f = (cs.drop 20).take 16 := by
  match cs, h with
  | a :: b :: c :: d :: rest, h =>
    refine ⟨a, b, c, d, rest.take 16, rest.drop 16, by simp, by simp, ?_⟩
    have : (rest.drop 16).length = 16 := by simp at h ⊢; omega
    show rest.drop 16 = (rest.drop 16).take 16
    rw [List.take_of_length_le (by omega)]
set_option maxRecDepth 100000 in
/-- An Objref, read. -/
theorem read_obj {H : Type} {enc : TypeId × Value → H} {W : World} {base n : Nat} {sp : Nat → Bool} {cs : List Value} {x : DataW H × List MemPlace} (h : DataW.trod enc Try.prog W base sp true n 58 cs = some x) : ∃ o, cs = orc o ∧ OrfOk o := by
  obtain ⟨ys, n', _, _, hl, hn, hf⟩ := DataW.trod_struct Try.underlying58 h
  rw [cells58] at hl
  have hz : ys.length = 6 := hn
  match ys, hz with
  | [y0, y1, y2, y3, y4, y5], _ =>
    have f0 := hf 0 _ rfl
    have f1 := hf 1 _ rfl
    have f2 := hf 2 _ rfl
    have f3 := hf 3 _ rfl
    have f4 := hf 4 _ rfl
    have f5 := hf 5 _ rfl
    change DataW.trod enc Try.prog W base sp true n' 56 ((cs.drop 0).take (Try.prog.cellsOf 56)) = some y0 at f0
    change DataW.trod enc Try.prog W base sp true n' 56 ((cs.drop 1).take (Try.prog.cellsOf 56)) = some y1 at f1
    change DataW.trod enc Try.prog W base sp true n' 22 ((cs.drop 2).take (Try.prog.cellsOf 22)) = some y2 at f2
    change DataW.trod enc Try.prog W base sp true n' 22 ((cs.drop 3).take (Try.prog.cellsOf 22)) = some y3 at f3
    change DataW.trod enc Try.prog W base sp true n' 24 ((cs.drop 4).take (Try.prog.cellsOf 24)) = some y4 at f4
    change DataW.trod enc Try.prog W base sp true n' 24 ((cs.drop 20).take (Try.prog.cellsOf 24)) = some y5 at f5
    rw [cells56] at f0 f1
    rw [cells22] at f2 f3
    rw [cells24] at f4 f5
    obtain ⟨a, b, c, d, e, f, hcs, he, hff⟩ := list36 hl
    rw [← he] at f4
    rw [← hff] at f5
    subst hcs
    clear he hff hl h hf
    obtain ⟨z0, e0, _, w0⟩ := DataW.trod_int Try.underlying56 (x := y0) (by simpa using f0)
    obtain ⟨z1, e1, _, w1⟩ := DataW.trod_int Try.underlying56 (x := y1) (by simpa using f1)
    obtain ⟨z2, e2, _, w2⟩ := DataW.trod_int Try.underlying22 (x := y2) (by simpa using f2)
    obtain ⟨z3, e3, _, w3⟩ := DataW.trod_int Try.underlying22 (x := y3) (by simpa using f3)
    obtain ⟨ip, e4, h4⟩ := read_guid f4
    obtain ⟨ii, e5, h5⟩ := read_guid f5
    have b0 := bounds_u32 w0
    have b1 := bounds_u32 w1
    have b2 := bounds_u64 w2
    have b3 := bounds_u64 w3
    simp at e0 e1 e2 e3
    subst e0 e1 e2 e3 e4 e5
    exact ⟨⟨z0, z1, z2, z3, ip, ii⟩, rfl, ⟨b0.1, b0.2, b1.1, b1.2, b2.1, b2.2, b3.1, b3.2, h4, h5⟩⟩
set_option maxRecDepth 100000 in
/-- An Objref that came in. -/
theorem open_obj {H : Type} {enc : TypeId × Value → H} {W : World} {r : Reach} {b0 : Nat} {v : Value} {d : DataW H} {p : List MemPlace}
    (hv : Value.okWide Try.prog W r b0 58 v) (h : DataW.Trod enc Try.prog W 0 (fun _ => true) true 58 v d p) : ∃ o, v = .agg (orA o) ∧ OrfOk o := by
  obtain ⟨cs, rfl, _⟩ := okWide_struct Try.underlying58 hv
  obtain ⟨fuel, hf⟩ := h
  obtain ⟨o, hc, ho⟩ := read_obj hf
  refine ⟨o, ?_, ho⟩
  simp only [Value.cells] at hc
  congr 1
  unfold orA
  rw [← hc]
end Go.Proofs.Ytceeipejhmnkfaa
