/-
  What the laws' rows ask: values and bytes that came in.
-/
import Derived.Test.YtplckmoeaeabgaaRows
import Derived.Test.YtplckmoeaeabgaaVlA
import Derived.Lib.SmallJoins
import Derived.ChangeOld
import Derived.Below
import Derived.Carry
import Derived.Deep.Slices
namespace Go.Proofs.Ytplckmoeaeabgaa
open Go Go.ChangeShapes Go.WideShapes Go.ChangeAt Go.RowKit

theorem own : ownKnob Try.prog.godebug = none := by kernel_rfl
theorem laidOut : laidOutB Try.prog = true := by kernel_rfl
theorem cells5 : Try.prog.cellsOf 5 = 1 := by kernel_rfl
theorem cells3 : Try.prog.cellsOf 3 = 1 := by kernel_rfl
theorem cells2 : Try.prog.cellsOf 2 = 1 := by kernel_rfl
theorem bytes5 : Try.prog.bytesOf 5 = 1 := by kernel_rfl
theorem cells9 : Try.prog.cellsOf 9 = 1 := by kernel_rfl
theorem cells22 : Try.prog.cellsOf 22 = 1 := by kernel_rfl
theorem cells24 : Try.prog.cellsOf 24 = 4 := by kernel_rfl
theorem list_of {α : Type} (n : Nat) (R : Nat → α → Prop) (h : ∀ i, i < n → ∃ a, R i a) : ∃ l : List α, l.length = n ∧ ∀ (i : Nat) (a : α), l[i]? = some a → R i a := by
  induction n with
  | zero => exact ⟨[], rfl, fun i a h => by simp at h⟩
  | succ n ih =>
    obtain ⟨l, h1, h2⟩ := ih (fun i hi => h i (by omega))
    obtain ⟨a, ha⟩ := h n (by omega)
    refine ⟨l ++ [a], by simp [h1], fun i b hb => ?_⟩
    by_cases e : i < l.length
    · rw [List.getElem?_append_left e] at hb; exact h2 i b hb
    · rw [List.getElem?_append_right (by omega)] at hb
      have hi : i - l.length = 0 := by
        rcases Nat.eq_zero_or_pos (i - l.length) with h' | h'
        · exact h'
        · rw [List.getElem?_eq_none (by simp; omega)] at hb; cases hb
      rw [hi] at hb
      simp at hb
      subst hb
      have : i = n := by omega
      rw [this]; exact ha
theorem len_bulk {H : Type} : ∀ l : List (DataW H), l.length ≤ Rows.uptoBulkAll l
  | [] => by simp [Rows.uptoBulkAll]
  | d :: l => by
    have h := len_bulk l
    have h1 : 1 ≤ Rows.uptoBulk d := by
      cases d with
      | lit l => cases l <;> simp [Rows.uptoBulk]
      | _ => simp [Rows.uptoBulk]
    simp only [Rows.uptoBulkAll, List.length_cons]
    omega
theorem mem_at {α : Type} {l : List α} {x : α} (h : x ∈ l) : ∃ i : Nat, l[i]? = some x := List.mem_iff_getElem?.1 h
set_option maxRecDepth 100000 in
/-- Bytes, read. -/
theorem read_bytes {H : Type} {enc : TypeId × Value → H} {W : World} {base n : Nat} {sp : Nat → Bool} {c : Value} {x : DataW H × List MemPlace} (h : DataW.trod enc Try.prog W base sp true n 30 [c] = some x) :
    ∃ (ad : Option Addr) (xs : List Int) (cap : Nat), c = .slice ad xs.length cap ∧ Bs W W.heap.size ad xs ∧ (ad = none → cap = 0 ∧ xs.length = 0) ∧ xs.length ≤ cap ∧ cap ≤ 9223372036854775807 ∧ Byt xs ∧ xs.length ≤ Rows.uptoBulk x.1 ∧ (xs.length = 0 ∨ ∃ el sp, x.1 = .slice el sp ∧ el.length = xs.length) := by
  rcases Deep.open_slice1 Try.underlying30 cells5 h with ⟨hc, _⟩ | ⟨a, len, cap, m, n', V, D, Pl, hc, _, hlc, hcm, hm, hxx, hi⟩
  · simp only [List.cons.injEq, and_true] at hc
    subst hc
    exact ⟨none, [], 0, rfl, Bs.nil _ _ _, fun _ => ⟨rfl, rfl⟩, Nat.le_refl _, by omega, fun x hx => by simp at hx, by simp, .inl rfl⟩
  · simp only [List.cons.injEq, and_true] at hc
    subst hc
    have hlm : len ≤ m := by rw [hm]; split <;> omega
    have each : ∀ i, i < len → ∃ z : Int, W.cell? (a.add i) = some (.int .u8 z) ∧ 0 ≤ z ∧ z ≤ 255 := fun i hil => by
      obtain ⟨h1, h2⟩ := hi i (by omega)
      obtain ⟨z, hz, _, hw⟩ := DataW.trod_int Try.underlying5 h2
      simp only [List.cons.injEq, and_true] at hz
      rw [hz] at h1
      exact ⟨z, h1, bounds_u8 hw⟩
    obtain ⟨xs, hl, hal⟩ := list_of len _ each
    have hm2 : cap ≤ 9223372036854775807 := by
      have : maxLen = 9223372036854775807 := rfl
      omega
    have hspot : 0 < xs.length → a.spot = none ∧ a.block < W.heap.size := fun hn => by
      obtain ⟨z, h1, _⟩ := each 0 (by omega)
      have e : a.add 0 = a := by simp [Addr.add]
      rw [e] at h1
      have h3 := World.block_lt_of_cell? W _ h1
      refine ⟨?_, h3⟩
      unfold World.cell? at h1
      split at h1
      · split at h1
        · cases h1
        · rename_i hs; simpa using hs
      · cases h1
    refine ⟨some a, xs, cap, by rw [hl], ⟨fun hn => ?_, ?_⟩, (fun h => by cases h), by omega, hm2, fun x hx => ?_, ?_, .inr ⟨_, _, by rw [hxx], by simp [hl]⟩⟩
    · obtain ⟨h1, h2⟩ := hspot hn
      obtain ⟨b, o, s⟩ := a
      simp only at h1 h2
      subst h1
      exact ⟨b, o, rfl, h2⟩
    · rintro b o ha j v hv
      cases ha
      have hj : j < xs.length := by
        have := (List.getElem?_eq_some_iff.1 hv).1
        simpa [u8l] using this
      rw [u8l_at hj] at hv
      cases hv
      have h1 := (hal j _ (getD_at hj)).1
      cases j with
      | zero => simpa [Addr.add] using h1
      | succ j => simpa [Addr.add] using h1
    · obtain ⟨i, hi⟩ := mem_at hx
      exact (hal i x hi).2
    · have h1 := len_bulk ((List.range len).map D)
      rw [hxx]
      simp only [Rows.uptoBulk, List.length_map, List.length_range] at h1 ⊢
      omega
set_option maxRecDepth 100000 in
/-- A row of bytes that came in. -/
theorem open_bytes {H : Type} {enc : TypeId × Value → H} {W : World} {r : Reach} {b0 : Nat} {v : Value} {d : DataW H} {p : List MemPlace}
    (hv : Value.okWide Try.prog W r b0 30 v) (h : DataW.Trod enc Try.prog W 0 (fun _ => true) true 30 v d p) : ∃ ad l cap, v = .slice ad (List.length l) cap ∧ Bs W W.heap.size ad l ∧ ((ad = none → cap = 0 ∧ l.length = 0) ∧ l.length ≤ cap ∧ cap ≤ 9223372036854775807 ∧ Byt l) ∧ l.length ≤ Rows.uptoBulk d ∧ (l.length = 0 ∨ ∃ el sp, d = .slice el sp ∧ el.length = l.length) := by
  obtain ⟨a, len, cap, rfl⟩ := okWide_slice Try.underlying30 hv
  obtain ⟨fuel, hf⟩ := h
  obtain ⟨ad, xs, cap', hc, h1, h2, h3, h4, h5, h6, h7⟩ := read_bytes (by simpa [Value.cells] using hf)
  cases hc
  exact ⟨_, _, _, rfl, h1, ⟨h2, h3, h4, h5⟩, h6, h7⟩
/-- A string's letters as numbers. -/
def lettersI (s : ByteArray) : List Int := s.data.toList.map fun c => (c.toNat : Int)
theorem letters_str (s : ByteArray) : strI (lettersI s) = s := by
  unfold strI lettersI
  rw [List.map_map]
  have : (s.data.toList.map ((fun n : Int => UInt8.ofNat n.toNat) ∘ fun c : UInt8 => (c.toNat : Int))) = s.data.toList := by
    conv => rhs; rw [← List.map_id s.data.toList]
    exact List.map_congr_left fun c _ => by simp
  rw [this]
theorem letters_byt (s : ByteArray) : Byt (lettersI s) := fun x hx => by
  obtain ⟨c, _, rfl⟩ := List.mem_map.1 hx
  have := c.toNat_lt
  omega
theorem bulk_all {H : Type} : ∀ (qs : List (Vr × List Value)) (es : List (DataW H)), qs.length = es.length → (∀ (i : Nat) q e, qs[i]? = some q → es[i]? = some e → cntV q.1 ≤ Rows.uptoBulk e) → ((qs.map (·.1)).map cntV).sum ≤ Rows.uptoBulkAll es
  | [], _, _, _ => by simp
  | q :: qs, [], h, _ => by simp at h
  | q :: qs, e :: es, h, hq => by
    have h1 := hq 0 q e (by simp) (by simp)
    have h2 := bulk_all qs es (by simpa using h) (fun i q e h1 h2 => hq (i + 1) q e (by simpa using h1) (by simpa using h2))
    simp only [List.map_cons, List.sum_cons, Rows.uptoBulkAll]
    omega
theorem spot_of {W : World} {a : Addr} {u : Value} (h : W.cell? a = some u) : a.spot = none ∧ a.block < W.heap.size := by
  have h3 := World.block_lt_of_cell? W _ h
  refine ⟨?_, h3⟩
  unfold World.cell? at h
  split at h
  · split at h
    · cases h
    · rename_i hs; simpa using hs
  · cases h
set_option maxRecDepth 100000 in
/-- A value, read. -/
theorem read_var {H : Type} {enc : TypeId × Value → H} {W : World} {base : Nat} {sp : Nat → Bool} : ∀ (n : Nat) {cs : List Value} {x : DataW H × List MemPlace}, DataW.trod enc Try.prog W base sp true n 24 cs = some x → ∃ v, VIn W W.heap.size v cs ∧ cntV v ≤ Rows.uptoBulk x.1 := by
  intro n
  induction n using Nat.strongRecOn with
  | ind n ih =>
    intro cs x h
    obtain ⟨ys, n', hnn, hxx, hl, hn, hf⟩ := DataW.trod_struct Try.underlying24 h
    rw [cells24] at hl
    match cs, hl with
    | [c0, c1, c2, c3], _ =>
      have f0 := hf 0 _ rfl
      have f1 := hf 1 _ rfl
      have f2 := hf 2 _ rfl
      have f3 := hf 3 _ rfl
      have hz : ys.length = 4 := hn
      match ys, hz with
      | [y0, y1, y2, y3], _ =>
        change DataW.trod enc Try.prog W base sp true n' 3 (([c0, c1, c2, c3].drop 0).take (Try.prog.cellsOf 3)) = some y0 at f0
        change DataW.trod enc Try.prog W base sp true n' 2 (([c0, c1, c2, c3].drop 1).take (Try.prog.cellsOf 2)) = some y1 at f1
        change DataW.trod enc Try.prog W base sp true n' 9 (([c0, c1, c2, c3].drop 2).take (Try.prog.cellsOf 9)) = some y2 at f2
        change DataW.trod enc Try.prog W base sp true n' 22 (([c0, c1, c2, c3].drop 3).take (Try.prog.cellsOf 22)) = some y3 at f3
        rw [cells3] at f0
        rw [cells2] at f1
        rw [cells9] at f2
        rw [cells22] at f3
        obtain ⟨z0, e0, _, w0⟩ := DataW.trod_int Try.underlying3 (x := y0) (by simpa using f0)
        obtain ⟨z1, e1, _, w1⟩ := DataW.trod_int Try.underlying2 (x := y1) (by simpa using f1)
        obtain ⟨s2, e2, _, _⟩ := DataW.trod_string Try.underlying9 (x := y2) (by simpa using f2)
        have hk := bounds_i64 w0
        have hz1 := bounds_i64 w1
        simp at e0 e1 e2
        subst e0 e1 e2
        rw [← letters_str s2]
        rcases DataW.trod_slice Try.underlying22 (x := y3) (by simpa using f3) with ⟨hc, hy3⟩ | ⟨a, len, cap, elems, rest, m, hmm, hc, hy3, _, hlc, hcm, hlen, hel, _, _⟩
        · simp at hc
          subst hc
          exact ⟨.mk z0 z1 (lettersI s2) [], .mk z0 z1 (lettersI s2) [] none 0 (fun _ => []) hk hz1 (letters_byt s2) ⟨Nat.le_refl _, by omega⟩ (fun _ => rfl) (fun h => absurd h (by simp)) (fun b o h => by cases h) (fun i x h => by simp at h), by
            rw [cntV_mk, hxx]
            simp [Rows.uptoBulk]⟩
        · simp at hc
          subst hc
          have each : ∀ i, i < len → ∃ q : Vr × List Value, q.2.length = 4 ∧ (∀ j u, q.2[j]? = some u → W.cell? ((a.add (i * 4)).add j) = some u) ∧ VIn W W.heap.size q.1 q.2 ∧ ∀ e, elems[i]? = some e → cntV q.1 ≤ Rows.uptoBulk e.1 := fun i hil => by
            have h1 := hel i hil
            rw [List.getElem?_eq_getElem (by omega), cells24] at h1
            obtain ⟨cs', h2, h3⟩ := Option.bind_eq_some_iff.1 h1
            obtain ⟨v, hv, hvc⟩ := ih m (by omega) h3
            obtain ⟨_, hlen4, hat⟩ := World.cells?_some h2
            refine ⟨(v, cs'), hlen4, fun j u hu => ?_, hv, fun e he => by rw [List.getElem?_eq_getElem (by omega)] at he; cases he; exact hvc⟩
            have hj : j < 4 := by have := (List.getElem?_eq_some_iff.1 hu).1; simp only at this; omega
            rw [hat j hj]; exact hu
          obtain ⟨qs, hql, hqa⟩ := list_of len _ each
          have hspot : 0 < qs.length → a.spot = none ∧ a.block < W.heap.size := fun hn => by
            obtain ⟨q, hq4, hq, _⟩ := each 0 (by omega)
            have h1 := hq 0 _ (List.getElem?_eq_getElem (by omega))
            have e : (a.add (0 * 4)).add 0 = a := by simp [Addr.add]
            rw [e] at h1
            exact spot_of h1
          have hcap : cap ≤ 9223372036854775807 := by
            have : maxLen = 9223372036854775807 := rfl
            omega
          have hml : (qs.map (·.1)).length = len := by rw [List.length_map]; exact hql
          refine ⟨.mk z0 z1 (lettersI s2) (qs.map (·.1)), ?_⟩
          have hVS := VS.mk (w := W) (S := fun b => b < W.heap.size) z0 z1 (lettersI s2) (qs.map (·.1)) (some a) cap (fun i => ((qs[i]?).map (·.2)).getD []) hk hz1 (letters_byt s2) ⟨by rw [hml]; exact hlc, hcap⟩ (fun h => by cases h) (fun hn => by
              obtain ⟨h1, h2⟩ := hspot (by simpa using hn)
              obtain ⟨b, o, s⟩ := a
              simp only at h1 h2
              subst h1
              exact ⟨b, o, rfl, h2⟩) (fun b o he i x hx => by
              cases he
              rw [List.getElem?_map] at hx
              cases hq : qs[i]? with
              | none => rw [hq] at hx; cases hx
              | some q =>
                intro j u hu
                simp only [Option.map_some, Option.getD_some] at hu
                have h1 := (hqa i q hq).2.1 j u hu
                have e : ((⟨b, o, none⟩ : Addr).add (i * 4)).add j = ⟨b, o + i * 4 + j, none⟩ := by
                  unfold Addr.add
                  by_cases hj0 : j = 0
                  · subst hj0
                    by_cases hi0 : i * 4 = 0
                    · simp [hi0]
                    · simp [hi0]
                  · by_cases hi0 : i * 4 = 0
                    · simp [hi0, hj0]
                    · simp [hi0, hj0]
                rw [e] at h1
                exact h1) (fun i x hx => by
              rw [List.getElem?_map] at hx
              cases hq : qs[i]? with
              | none => rw [hq] at hx; cases hx
              | some q =>
                rw [hq] at hx
                simp only [Option.map_some, Option.some.injEq] at hx
                subst hx
                simp only [Option.map_some, Option.getD_some]
                exact (hqa i q hq).2.2.1)
          rw [hml] at hVS
          refine ⟨hVS, ?_⟩
          have hb := bulk_all qs (elems.map (·.1)) (by rw [List.length_map]; omega) (fun i q e h1 h2 => by
            rw [List.getElem?_map] at h2
            cases he : elems[i]? with
            | none => rw [he] at h2; cases h2
            | some e' => rw [he] at h2; cases h2; exact (hqa i q h1).2.2.2 e' he)
          rw [cntV_mk, hxx, hy3]
          simp only [Rows.uptoBulk, Rows.uptoBulkAll, List.map_cons, List.map_nil]
          omega
set_option maxRecDepth 100000 in
/-- A value that came in. -/
theorem open_var {H : Type} {enc : TypeId × Value → H} {W : World} {r : Reach} {b0 : Nat} {v : Value} {d : DataW H} {p : List MemPlace}
    (hv : Value.okWide Try.prog W r b0 24 v) (h : DataW.Trod enc Try.prog W 0 (fun _ => true) true 24 v d p) : ∃ x cs, v = .agg (List.toArray cs) ∧ VIn W W.heap.size x cs ∧ cntV x ≤ Rows.uptoBulk d := by
  obtain ⟨cs, rfl, hcs⟩ := okWide_struct Try.underlying24 hv
  obtain ⟨fuel, hf⟩ := h
  obtain ⟨x, hx⟩ := read_var fuel (cs := cs.toList) hf
  exact ⟨x, cs.toList, by simp, hx⟩
end Go.Proofs.Ytplckmoeaeabgaa
