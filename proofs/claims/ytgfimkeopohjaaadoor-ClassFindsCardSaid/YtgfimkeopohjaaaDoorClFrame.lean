/-
  What the laws' rows ask: modules and GUIDs that came in.
-/
import Derived.Test.YtgfimkeopohjaaaDoorRdRow
import Derived.Test.YtgfimkeopohjaaaDoorClA
import Derived.Test.YtgfimkeopohjaaaDoorWrM
namespace Go.Proofs.YtgfimkeopohjaaaDoor
open Go Go.ChangeShapes Go.WideShapes Go.ChangeAt Go.RowKit

theorem own : ownKnob Tryd.prog.godebug = none := by kernel_rfl
theorem laidOut : laidOutB Tryd.prog = true := by kernel_rfl
theorem cells5 : Tryd.prog.cellsOf 5 = 1 := by kernel_rfl
theorem cells3 : Tryd.prog.cellsOf 3 = 1 := by kernel_rfl
theorem cells34 : Tryd.prog.cellsOf 34 = 16 := by kernel_rfl
theorem cells74 : Tryd.prog.cellsOf 74 = 17 := by kernel_rfl
theorem cells61 : Tryd.prog.cellsOf 61 = 3 := by kernel_rfl
theorem cells56 : Tryd.prog.cellsOf 56 = 1 := by kernel_rfl
theorem cells35 : Tryd.prog.cellsOf 35 = 1 := by kernel_rfl
theorem cells36 : Tryd.prog.cellsOf 36 = 1 := by kernel_rfl
theorem cells22 : Tryd.prog.cellsOf 22 = 1 := by kernel_rfl
theorem cells38 : Tryd.prog.cellsOf 38 = 19 := by kernel_rfl
section
variable {H : Type} {enc : TypeId × Value → H} {W : World} {base n : Nat} {sp : Nat → Bool} {cs : List Value} {x : DataW H × List MemPlace}
set_option maxRecDepth 100000 in
/-- One GUID, read. -/
theorem read_guid (h : DataW.trod enc Tryd.prog W base sp true n 34 cs = some x) : ∃ y : List Int, cs = u8l y ∧ y.length = 16 ∧ Byt y := by
  obtain ⟨ys, m, _, _, hl, hn, hi⟩ := DataW.trod_array Tryd.underlying34 h
  rw [cells5] at hi
  rw [cells34] at hl
  have each : ∀ i, i < 16 → ∃ n : Int, cs[i]? = some (.int .u8 n) ∧ 0 ≤ n ∧ n ≤ 255 := fun i h16 => by
    have h1 := hi i h16
    rw [List.getElem?_eq_getElem (by omega)] at h1
    obtain ⟨n, hc, _, hw⟩ := DataW.trod_int Tryd.underlying5 h1
    refine ⟨n, ?_, bounds_u8 hw⟩
    have h2 : ((cs.drop (i * 1)).take 1)[0]? = some (.int .u8 n) := by rw [hc]; rfl
    simpa using h2
  obtain ⟨y, h1, h2⟩ := list_of 16 _ each
  refine ⟨y, List.ext_getElem? fun i => ?_, h1, fun z hz => ?_⟩
  · by_cases h16 : i < 16
    · have h3 : y[i]? = some y[i] := List.getElem?_eq_getElem (by omega)
      rw [(h2 i _ h3).1]
      simp [u8l, h3]
    · rw [List.getElem?_eq_none (by omega), List.getElem?_eq_none (by simp [u8l]; omega)]
  · obtain ⟨i, hi⟩ := mem_at hz
    exact (h2 i z hi).2
set_option maxRecDepth 100000 in
/-- One face, read. -/
theorem read_face (h : DataW.trod enc Tryd.prog W base sp true n 74 cs = some x) : ∃ f : Face, cs = fcl f ∧ f.id.length = 16 ∧ Byt f.id ∧ I64 f.base := by
  obtain ⟨ys, n', _, _, hl, hn, hf⟩ := DataW.trod_struct Tryd.underlying74 h
  rw [cells74] at hl
  have f0 := hf 0 _ rfl
  have f1 := hf 1 _ rfl
  have hz : ys.length = 2 := hn
  match ys, hz with
  | [y0, y1], _ =>
    change DataW.trod enc Tryd.prog W base sp true n' 34 ((cs.drop 0).take (Tryd.prog.cellsOf 34)) = some y0 at f0
    change DataW.trod enc Tryd.prog W base sp true n' 3 ((cs.drop 16).take (Tryd.prog.cellsOf 3)) = some y1 at f1
    rw [cells34] at f0
    rw [cells3] at f1
    obtain ⟨y, e0, h16, hb⟩ := read_guid f0
    obtain ⟨b, e1, _, w1⟩ := DataW.trod_int Tryd.underlying3 f1
    refine ⟨⟨y, b⟩, ?_, h16, hb, bounds_i64 w1⟩
    have h2 : cs = (cs.drop 0).take 16 ++ (cs.drop 16).take 1 := by
      rw [List.drop_zero]
      conv => lhs; rw [← List.take_append_drop 16 cs]
      congr 1
      rw [List.take_of_length_le (by simp; omega)]
    rw [h2, e0, e1]
    rfl
set_option maxRecDepth 100000 in
/-- An instruction, read. -/
theorem read_ins (h : DataW.trod enc Tryd.prog W base sp true n 61 cs = some x) : ∃ o, cs = insc o ∧ InsOk o := by
  obtain ⟨ys, n', _, _, hl, hn, hf⟩ := DataW.trod_struct Tryd.underlying61 h
  rw [cells61] at hl
  have hz : ys.length = 3 := hn
  match ys, hz with
  | [y0, y1, y2], _ =>
    have f0 := hf 0 _ rfl
    have f1 := hf 1 _ rfl
    have f2 := hf 2 _ rfl
    change DataW.trod enc Tryd.prog W base sp true n' 3 ((cs.drop 0).take (Tryd.prog.cellsOf 3)) = some y0 at f0
    change DataW.trod enc Tryd.prog W base sp true n' 3 ((cs.drop 1).take (Tryd.prog.cellsOf 3)) = some y1 at f1
    change DataW.trod enc Tryd.prog W base sp true n' 3 ((cs.drop 2).take (Tryd.prog.cellsOf 3)) = some y2 at f2
    rw [cells3] at f0 f1 f2
    match cs, hl with
    | [a, b, c], _ =>
      obtain ⟨z0, e0, _, w0⟩ := DataW.trod_int Tryd.underlying3 (x := y0) (by simpa using f0)
      obtain ⟨z1, e1, _, w1⟩ := DataW.trod_int Tryd.underlying3 (x := y1) (by simpa using f1)
      obtain ⟨z2, e2, _, w2⟩ := DataW.trod_int Tryd.underlying3 (x := y2) (by simpa using f2)
      have b0 := bounds_i64 w0
      have b1 := bounds_i64 w1
      have b2 := bounds_i64 w2
      simp at e0 e1 e2
      subst e0 e1 e2
      exact ⟨⟨z0, z1, z2⟩, rfl, ⟨b0, b1, b2⟩⟩
set_option maxRecDepth 100000 in
/-- A slice of instructions, read. -/
theorem read_slI {c : Value} (h : DataW.trod enc Tryd.prog W base sp true n 56 [c] = some x) : ∃ l, SlI W W.heap.size c l := by
  obtain ⟨ad, l, cap, rfl, hr⟩ := read_row (R := fun cs y => cs = insc y ∧ InsOk y) Tryd.underlying56 cells61 (by decide) (fun h => read_ins h) (fun cs y hy => by rw [hy.1]; rfl) h
  refine ⟨l, ad, cap, rfl, ⟨hr.at_, fun b o he i y hy => ?_⟩, hr.lec, hr.mx, fun y hy => ?_⟩
  · obtain ⟨cs, h1, h2⟩ := hr.rows b o he i y hy
    rw [h1.1] at h2; exact h2
  · obtain ⟨cs, h1⟩ := hr.all y hy
    exact h1.2
set_option maxRecDepth 100000 in
/-- A slice of faces, read. -/
theorem read_slF {c : Value} (h : DataW.trod enc Tryd.prog W base sp true n 35 [c] = some x) : ∃ l, SlF W W.heap.size c l ∧ ∀ f ∈ l, Byt f.id := by
  obtain ⟨ad, l, cap, rfl, hr⟩ := read_row (R := fun cs (f : Face) => cs = fcl f ∧ f.id.length = 16 ∧ Byt f.id ∧ I64 f.base) Tryd.underlying35 cells74 (by decide) (fun h => read_face h) (fun cs y hy => by rw [hy.1]; exact fcl_len hy.2.1) h
  refine ⟨l, ⟨ad, cap, rfl, ⟨hr.at_, fun b o he i y hy => ?_, fun y hy => ?_, fun y hy => ?_⟩, hr.lec, hr.mx⟩, fun y hy => ?_⟩
  · obtain ⟨cs, h1, h2⟩ := hr.rows b o he i y hy
    rw [h1.1] at h2; exact h2
  · obtain ⟨cs, h1⟩ := hr.all y hy
    exact h1.2.1
  · obtain ⟨cs, h1⟩ := hr.all y hy
    exact h1.2.2.2
  · obtain ⟨cs, h1⟩ := hr.all y hy
    exact h1.2.2.1
set_option maxRecDepth 100000 in
/-- A slice of methods, read. -/
theorem read_slM {c : Value} (h : DataW.trod enc Tryd.prog W base sp true n 36 [c] = some x) : ∃ l, SlM W W.heap.size c l := by
  have rd : ∀ {n : Nat} {cs : List Value} {x : DataW H × List MemPlace}, DataW.trod enc Tryd.prog W base sp true n 56 cs = some x → ∃ y : List Ins, ∃ v, cs = [v] ∧ SlI W W.heap.size v y := fun {n cs x} h => by
    have hl : cs.length = 1 := by
      rcases Deep.open_slice Tryd.underlying56 h with ⟨hc, _⟩ | ⟨a, len, cap, m, n', D, Pl, hc, _⟩
      · rw [hc]; rfl
      · rw [hc]; rfl
    match cs, hl with
    | [v], _ =>
      obtain ⟨l, hl⟩ := read_slI h
      exact ⟨l, v, rfl, hl⟩
  obtain ⟨ad, l, cap, rfl, hr⟩ := read_row (R := fun cs (y : List Ins) => ∃ v, cs = [v] ∧ SlI W W.heap.size v y) Tryd.underlying36 cells56 (by decide) (fun h => rd h) (fun cs y hy => by obtain ⟨v, rfl, _⟩ := hy; rfl) h
  refine ⟨l, ad, cap, rfl, ⟨hr.at_, fun b o he i y hy => ?_⟩, hr.lec, hr.mx⟩
  obtain ⟨cs, ⟨v, h1, h3⟩, h2⟩ := hr.rows b o he i y hy
  subst h1
  refine ⟨v, ?_, h3⟩
  have := h2 0 v rfl
  simpa using this
/-- The bytes of a class's names are bytes. -/
def ClB (c : Cls) : Prop := Byt c.id ∧ ∀ f ∈ c.faces, Byt f.id
set_option maxRecDepth 100000 in
/-- A class, read. -/
theorem read_class (h : DataW.trod enc Tryd.prog W base sp true n 38 cs = some x) : ∃ c : Cls, (∃ vf vm, cs = clc c vf vm ∧ ClC W W.heap.size c vf vm) ∧ ClB c := by
  obtain ⟨ys, n', _, _, hl, hn, hf⟩ := DataW.trod_struct Tryd.underlying38 h
  rw [cells38] at hl
  have f0 := hf 0 _ rfl
  have f1 := hf 1 _ rfl
  have f2 := hf 2 _ rfl
  have f3 := hf 3 _ rfl
  have hz : ys.length = 4 := hn
  match ys, hz with
  | [y0, y1, y2, y3], _ =>
    change DataW.trod enc Tryd.prog W base sp true n' 34 ((cs.drop 0).take (Tryd.prog.cellsOf 34)) = some y0 at f0
    change DataW.trod enc Tryd.prog W base sp true n' 35 ((cs.drop 16).take (Tryd.prog.cellsOf 35)) = some y1 at f1
    change DataW.trod enc Tryd.prog W base sp true n' 3 ((cs.drop 17).take (Tryd.prog.cellsOf 3)) = some y2 at f2
    change DataW.trod enc Tryd.prog W base sp true n' 36 ((cs.drop 18).take (Tryd.prog.cellsOf 36)) = some y3 at f3
    rw [cells34] at f0
    rw [cells35] at f1
    rw [cells3] at f2
    rw [cells36] at f3
    have hd : ∃ a b c, cs.drop 16 = [a, b, c] := by
      have h3 : (cs.drop 16).length = 3 := by simp [hl]
      match hq : cs.drop 16, h3 with
      | [a, b, c], _ => exact ⟨a, b, c, rfl⟩
    obtain ⟨a, b, c, hd⟩ := hd
    have d17 : cs.drop 17 = [b, c] := by rw [show 17 = 16 + 1 from rfl, ← List.drop_drop, hd]; rfl
    have d18 : cs.drop 18 = [c] := by rw [show 18 = 16 + 2 from rfl, ← List.drop_drop, hd]; rfl
    rw [hd] at f1
    rw [d17] at f2
    rw [d18] at f3
    obtain ⟨g, e0, h16, hby⟩ := read_guid f0
    obtain ⟨lf, hF, hFb⟩ := read_slF (c := a) (by simpa using f1)
    obtain ⟨s, e2, _, w2⟩ := DataW.trod_int Tryd.underlying3 (x := y2) (by simpa using f2)
    obtain ⟨lm, hM⟩ := read_slM (c := c) (by simpa using f3)
    simp at e2
    subst e2
    refine ⟨⟨g, lf, s, lm⟩, ⟨a, c, ?_, hF, hM, h16, bounds_i64 w2⟩, hby, hFb⟩
    have h2 : cs = (cs.drop 0).take 16 ++ cs.drop 16 := by
      rw [List.drop_zero, List.take_append_drop]
    rw [h2, e0, hd]
    rfl
set_option maxRecDepth 100000 in
/-- Classes, read. -/
theorem read_slC {c : Value} (h : DataW.trod enc Tryd.prog W base sp true n 22 [c] = some x) : ∃ l, SlC W W.heap.size c l ∧ ∀ k ∈ l, ClB k := by
  obtain ⟨ad, l, cap, rfl, hr⟩ := read_row (R := fun cs (c : Cls) => (∃ vf vm, cs = clc c vf vm ∧ ClC W W.heap.size c vf vm) ∧ ClB c) Tryd.underlying22 cells38 (by decide) (fun h => read_class h) (fun cs y hy => by
    obtain ⟨⟨vf, vm, rfl, hc⟩, _⟩ := hy
    exact clc_len hc.id) h
  refine ⟨l, ⟨ad, cap, rfl, ⟨hr.at_, fun b o he i y hy => ?_⟩, hr.lec, hr.mx⟩, fun y hy => ?_⟩
  · obtain ⟨cs, ⟨⟨vf, vm, rfl, hc⟩, _⟩, h2⟩ := hr.rows b o he i y hy
    exact ⟨vf, vm, h2, hc⟩
  · obtain ⟨cs, h1⟩ := hr.all y hy
    exact h1.2
end
theorem cells24 : Tryd.prog.cellsOf 24 = 1 := by kernel_rfl
set_option maxRecDepth 100000 in
/-- A module that came in. -/
theorem open_module {H : Type} {enc : TypeId × Value → H} {W : World} {r : Reach} {b0 : Nat} {v : Value} {d : DataW H} {p : List MemPlace}
    (hv : Value.okWide Tryd.prog W r b0 24 v) (h : DataW.Trod enc Tryd.prog W 0 (fun _ => true) true 24 v d p) : ∃ (ad : Option Addr) (l : List Cls) (cap : Nat), v = .agg #[.slice ad (List.length l) cap] ∧ (∀ k ∈ l, ClB k) ∧ RwC W W.heap.size ad l ∧ l.length ≤ cap ∧ cap ≤ 9223372036854775807 := by
  obtain ⟨cs, rfl, _⟩ := okWide_struct Tryd.underlying24 hv
  obtain ⟨fuel, hf⟩ := h
  obtain ⟨ys, n', _, _, hl, hn, hfl⟩ := DataW.trod_struct Tryd.underlying24 hf
  rw [cells24] at hl
  simp only [Value.cells] at hl
  have hz : ys.length = 1 := hn
  match ys, hz with
  | [y0], _ =>
    have f0 := hfl 0 _ rfl
    simp only [Value.cells] at f0
    change DataW.trod enc Tryd.prog W 0 (fun _ => true) true n' 22 ((cs.toList.drop 0).take (Tryd.prog.cellsOf 22)) = some y0 at f0
    rw [cells22] at f0
    have hcs : ∃ c, cs = #[c] := by
      obtain ⟨l⟩ := cs
      match l, hl with
      | [c], _ => exact ⟨c, rfl⟩
    obtain ⟨c, rfl⟩ := hcs
    obtain ⟨l, ⟨ad, cap, rfl, h1, h2, h3⟩, h4⟩ := read_slC (c := c) (by simpa using f0)
    exact ⟨ad, l, cap, rfl, h4, h1, h2, h3⟩
theorem okWide_arr {P : Program} {w : World} {r : Reach} {base : Nat} {t : TypeId} {v : Value} {n : Nat} {e : TypeId} (ht : P.underlying t = some (.array n e)) (h : Value.okWide P w r base t v) : ∃ cs, v = .agg cs ∧ cs.size = P.cellsOf t := by
  simp only [Value.okWide, ht] at h
  obtain ⟨cs, h1, h2, _⟩ := h
  exact ⟨cs, h1, h2⟩
set_option maxRecDepth 100000 in
/-- A GUID that came in. -/
theorem open_guid {H : Type} {enc : TypeId × Value → H} {W : World} {r : Reach} {b0 : Nat} {v : Value} {d : DataW H} {p : List MemPlace}
    (hv : Value.okWide Tryd.prog W r b0 34 v) (h : DataW.Trod enc Tryd.prog W 0 (fun _ => true) true 34 v d p) : ∃ xs, v = .agg (u8s xs) ∧ xs.length = 16 ∧ Byt xs := by
  obtain ⟨cs, rfl, hsz⟩ := okWide_arr Tryd.underlying34 hv
  obtain ⟨fuel, hf⟩ := h
  obtain ⟨y, hy, h16, hb⟩ := read_guid hf
  refine ⟨y, ?_, h16, hb⟩
  congr 1
  apply Array.ext'
  simpa [Value.cells, u8s, u8l] using hy
end Go.Proofs.YtgfimkeopohjaaaDoor
