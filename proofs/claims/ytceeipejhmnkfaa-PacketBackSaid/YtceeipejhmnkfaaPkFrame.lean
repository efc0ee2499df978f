/-
  What the laws' rows ask: packets that came in.
-/
import Derived.Test.YtceeipejhmnkfaaObFrame
import Derived.Test.YtceeipejhmnkfaaPkA
namespace Go.Proofs.Ytceeipejhmnkfaa
open Go Go.ChangeShapes Go.WideShapes Go.ChangeAt Go.RowKit

theorem cells3 : Try.prog.cellsOf 3 = 1 := by kernel_rfl
theorem cells2 : Try.prog.cellsOf 2 = 1 := by kernel_rfl
theorem cells25 : Try.prog.cellsOf 25 = 1 := by kernel_rfl
theorem cells26 : Try.prog.cellsOf 26 = 1 := by kernel_rfl
set_option maxRecDepth 100000 in
theorem cells28 : Try.prog.cellsOf 28 = 25 := by kernel_rfl
theorem spot_of {W : World} {a : Addr} {u : Value} (h : W.cell? a = some u) : a.spot = none ∧ a.block < W.heap.size := by
  have h3 := World.block_lt_of_cell? W _ h
  refine ⟨?_, h3⟩
  unfold World.cell? at h
  split at h
  · split at h
    · cases h
    · rename_i hs; simpa using hs
  · cases h
set_option maxRecDepth 100000 in
/-- A row of Objrefs, read. -/
theorem read_objs {H : Type} {enc : TypeId × Value → H} {W : World} {base n : Nat} {sp : Nat → Bool} {c : Value} {x : DataW H × List MemPlace} (h : DataW.trod enc Try.prog W base sp true n 26 [c] = some x) :
    ∃ (ad : Option Addr) (rs : List Orf) (cap : Nat), c = .slice ad rs.length cap ∧ RwO W W.heap.size ad rs ∧ rs.length ≤ cap ∧ cap ≤ 9223372036854775807 ∧ ∀ y ∈ rs, OrfOk y := by
  rcases Deep.open_slice Try.underlying26 h with ⟨hc, _⟩ | ⟨a, len, cap, m, n', D, Pl, hc, _, hlc, hcm, hm, _, hi⟩
  · simp only [List.cons.injEq, and_true] at hc
    subst hc
    exact ⟨none, [], 0, rfl, ⟨fun h => absurd h (by simp), fun b o h => by cases h⟩, Nat.le_refl _, by omega, fun y hy => by cases hy⟩
  · simp only [List.cons.injEq, and_true] at hc
    subst hc
    have hlm : len ≤ m := by rw [hm]; split <;> omega
    have each : ∀ i, i < len → ∃ y : Orf, (∀ j u, (orc y)[j]? = some u → W.cell? ((a.add (i * 36)).add j) = some u) ∧ OrfOk y := fun i hil => by
      obtain ⟨cs', h1, h2⟩ := hi i (by omega)
      rw [cells58] at h1
      obtain ⟨y, rfl, hy⟩ := read_obj h2
      obtain ⟨_, hlen, hat⟩ := World.cells?_some h1
      refine ⟨y, fun j u hu => ?_, hy⟩
      have hj : j < 36 := by have := (List.getElem?_eq_some_iff.1 hu).1; omega
      rw [hat j hj]; exact hu
    obtain ⟨rs, hl, hal⟩ := list_of len _ each
    have hm2 : cap ≤ 9223372036854775807 := by
      have : maxLen = 9223372036854775807 := rfl
      omega
    have hspot : 0 < rs.length → a.spot = none ∧ a.block < W.heap.size := fun hn => by
      obtain ⟨y, h1, _⟩ := each 0 (by omega)
      have h2 := h1 0 _ rfl
      have e : (a.add (0 * 36)).add 0 = a := by simp [Addr.add]
      rw [e] at h2
      exact spot_of h2
    refine ⟨some a, rs, cap, by rw [hl], ⟨fun hn => ?_, ?_⟩, by omega, hm2, fun y hy => ?_⟩
    · obtain ⟨h1, h2⟩ := hspot hn
      obtain ⟨b, o, s⟩ := a
      simp only at h1 h2
      subst h1
      exact ⟨b, o, rfl, h2⟩
    · rintro b o ha i y hy j u hu
      cases ha
      have h1 := (hal i y hy).1 j u hu
      have e : ((⟨b, o, none⟩ : Addr).add (i * 36)).add j = ⟨b, o + i * 36 + j, none⟩ := by
        unfold Addr.add
        by_cases hj0 : j = 0
        · subst hj0
          by_cases hi0 : i * 36 = 0
          · simp [hi0]
          · simp [hi0]
        · by_cases hi0 : i * 36 = 0
          · simp [hi0, hj0]
          · simp [hi0, hj0]
      rw [e] at h1
      exact h1
    · obtain ⟨i, hi⟩ := mem_at hy
      exact (hal i y hi).2
theorem list25 {α : Type} {cs : List α} (h : cs.length = 25) : ∃ a b c d e g m n o s, cs = [a, b, c, d, e] ++ (g ++ [m, n, o, s]) ∧ g = (cs.drop 5).take 16 ∧ g.length = 16 := by
  match cs, h with
  | a :: b :: c :: d :: e :: rest, h =>
    have hl : rest.length = 20 := by simpa using h
    have hq : (rest.drop 16).length = 4 := by simp [hl]
    match hr : rest.drop 16, hq with
    | [m, n, o, s], _ =>
      refine ⟨a, b, c, d, e, rest.take 16, m, n, o, s, ?_, by simp, by simp [hl]⟩
      rw [← hr, List.take_append_drop]
      rfl
set_option maxRecDepth 100000 in
set_option maxHeartbeats 1000000 in
/-- A packet, read. -/
theorem read_pk {H : Type} {enc : TypeId × Value → H} {W : World} {base n : Nat} {sp : Nat → Bool} {cs : List Value} {x : DataW H × List MemPlace} (h : DataW.trod enc Try.prog W base sp true n 28 cs = some x) :
    ∃ p ad c, cs = pkc p ad c ∧ PkOk p ∧ RwO W W.heap.size ad p.rs ∧ p.rs.length ≤ c ∧ c ≤ 9223372036854775807 := by
  obtain ⟨ys, n', _, _, hl, hn, hf⟩ := DataW.trod_struct Try.underlying28 h
  rw [cells28] at hl
  have hz : ys.length = 10 := hn
  match ys, hz with
  | [y0, y1, y2, y3, y4, y5, y6, y7, y8, y9], _ =>
    have f0 := hf 0 _ rfl
    have f1 := hf 1 _ rfl
    have f2 := hf 2 _ rfl
    have f3 := hf 3 _ rfl
    have f4 := hf 4 _ rfl
    have f5 := hf 5 _ rfl
    have f6 := hf 6 _ rfl
    have f7 := hf 7 _ rfl
    have f8 := hf 8 _ rfl
    have f9 := hf 9 _ rfl
    change DataW.trod enc Try.prog W base sp true n' 3 ((cs.drop 0).take (Try.prog.cellsOf 3)) = some y0 at f0
    change DataW.trod enc Try.prog W base sp true n' 3 ((cs.drop 1).take (Try.prog.cellsOf 3)) = some y1 at f1
    change DataW.trod enc Try.prog W base sp true n' 3 ((cs.drop 2).take (Try.prog.cellsOf 3)) = some y2 at f2
    change DataW.trod enc Try.prog W base sp true n' 22 ((cs.drop 3).take (Try.prog.cellsOf 22)) = some y3 at f3
    change DataW.trod enc Try.prog W base sp true n' 22 ((cs.drop 4).take (Try.prog.cellsOf 22)) = some y4 at f4
    change DataW.trod enc Try.prog W base sp true n' 24 ((cs.drop 5).take (Try.prog.cellsOf 24)) = some y5 at f5
    change DataW.trod enc Try.prog W base sp true n' 3 ((cs.drop 21).take (Try.prog.cellsOf 3)) = some y6 at f6
    change DataW.trod enc Try.prog W base sp true n' 2 ((cs.drop 22).take (Try.prog.cellsOf 2)) = some y7 at f7
    change DataW.trod enc Try.prog W base sp true n' 25 ((cs.drop 23).take (Try.prog.cellsOf 25)) = some y8 at f8
    change DataW.trod enc Try.prog W base sp true n' 26 ((cs.drop 24).take (Try.prog.cellsOf 26)) = some y9 at f9
    rw [cells3] at f0 f1 f2 f6
    rw [cells22] at f3 f4
    rw [cells24] at f5
    rw [cells2] at f7
    rw [cells25] at f8
    rw [cells26] at f9
    obtain ⟨a, b, c, d, e, g, m, k, o, s, hcs, hg, hgl⟩ := list25 hl
    rw [← hg] at f5
    have d21 : cs.drop 21 = [m, k, o, s] := by rw [hcs, show 21 = 5 + 16 from rfl, ← List.drop_drop]; simp [← hgl]
    have d22 : cs.drop 22 = [k, o, s] := by rw [show 22 = 21 + 1 from rfl, ← List.drop_drop, d21]; rfl
    have d23 : cs.drop 23 = [o, s] := by rw [show 23 = 21 + 2 from rfl, ← List.drop_drop, d21]; rfl
    have d24 : cs.drop 24 = [s] := by rw [show 24 = 21 + 3 from rfl, ← List.drop_drop, d21]; rfl
    rw [d21] at f6
    rw [d22] at f7
    rw [d23] at f8
    rw [d24] at f9
    clear d21 d22 d23 d24 hg hgl hl h hf
    subst hcs
    obtain ⟨z0, e0, _, w0⟩ := DataW.trod_int Try.underlying3 (x := y0) (by simpa using f0)
    obtain ⟨z1, e1, _, w1⟩ := DataW.trod_int Try.underlying3 (x := y1) (by simpa using f1)
    obtain ⟨z2, e2, _, w2⟩ := DataW.trod_int Try.underlying3 (x := y2) (by simpa using f2)
    obtain ⟨z3, e3, _, w3⟩ := DataW.trod_int Try.underlying22 (x := y3) (by simpa using f3)
    obtain ⟨z4, e4, _, w4⟩ := DataW.trod_int Try.underlying22 (x := y4) (by simpa using f4)
    obtain ⟨ip, e5, h5⟩ := read_guid f5
    obtain ⟨z6, e6, _, w6⟩ := DataW.trod_int Try.underlying3 (x := y6) (by simpa using f6)
    obtain ⟨z7, e7, _, w7⟩ := DataW.trod_int Try.underlying2 (x := y7) (by simpa using f7)
    obtain ⟨z8, e8, _, w8⟩ := DataW.trod_int Try.underlying25 (x := y8) (by simpa using f8)
    obtain ⟨ad, rs, cap, hs, hro, hlc, hcm, hok⟩ := read_objs (c := s) (by simpa using f9)
    have b0 := bounds_i64 w0
    have b1 := bounds_i64 w1
    have b2 := bounds_i64 w2
    have b3 := bounds_u64 w3
    have b4 := bounds_u64 w4
    have b6 := bounds_i64 w6
    have b7 := bounds_i64 w7
    have b8 := bounds_i64 w8
    simp at e0 e1 e2 e3 e4 e6 e7 e8
    subst e0 e1 e2 e3 e4 e5 e6 e7 e8 hs
    exact ⟨⟨z0, z1, z2, z3, z4, ip, z6, z7, z8, rs⟩, ad, cap, rfl, ⟨b0, b1, b2, b3, b4, h5, b6, b7, b8, hok⟩, hro, hlc, hcm⟩
set_option maxRecDepth 100000 in
/-- A packet that came in. -/
theorem open_packet {H : Type} {enc : TypeId × Value → H} {W : World} {r : Reach} {b0 : Nat} {v : Value} {d : DataW H} {p : List MemPlace}
    (hv : Value.okWide Try.prog W r b0 28 v) (h : DataW.Trod enc Try.prog W 0 (fun _ => true) true 28 v d p) : ∃ q ad c, v = .agg (pkA q ad c) ∧ PkOk q ∧ RwO W W.heap.size ad q.rs ∧ q.rs.length ≤ c ∧ c ≤ 9223372036854775807 := by
  obtain ⟨cs, rfl, _⟩ := okWide_struct Try.underlying28 hv
  obtain ⟨fuel, hf⟩ := h
  obtain ⟨q, ad, c, hc, h1, h2, h3, h4⟩ := read_pk hf
  refine ⟨q, ad, c, ?_, h1, h2, h3, h4⟩
  simp only [Value.cells] at hc
  congr 1
  unfold pkA
  rw [← hc]
end Go.Proofs.Ytceeipejhmnkfaa
