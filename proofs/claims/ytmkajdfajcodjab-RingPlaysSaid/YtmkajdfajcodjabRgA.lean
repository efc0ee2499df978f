/-
  A ring in memory: what it is; New, Len, cell, At.
-/
import Derived.Test.YtmkajdfajcodjabRgR
import Derived.Test.YtmkajdfajcodjabMixD
import Derived.Test.YtmkajdfajcodjabPick
import Derived.Deep.Cut
namespace Go.Proofs.Ytmkajdfajcodjab
open Go Go.ChangeShapes Go.WideShapes Go.ChangeAt Go.RowKit

theorem own_base {w : World} {B B' k n : Nat} {T : TypeId} {v : Value} {xs : List Value} (hB : B' ≤ B) (h : w.ownsRow B T k v n xs) : w.ownsRow B' T k v n xs := by
  refine ⟨h.1, ?_⟩
  rcases h.2 with e | ⟨g, cap, cur, e, hb, rest⟩
  · exact .inl e
  · exact .inr ⟨g, cap, cur, e, Nat.le_trans hB hb, rest⟩
abbrev TRg : TypeId := 48
/-- A ring in memory: m cells; q is what waits. -/
structure RgW (w : World) (S : Nat → Prop) (p most m first : Nat) (cs q : List Int) (cv : Value) : Prop where
  hp : w.heap[p]? = some (.cells #[nI most, cv, nI first, nI q.length] TRg (0, 0))
  row : w.ownsRow 0 TI 1 cv m (cs.map iv)
  ql : q.length ≤ m
  ml : m ≤ most
  mx : most ≤ 65536
  fl : (m = 0 ∧ first = 0) ∨ first < m
  at_ : ∀ (i : Nat) x, q[i]? = some x → cs[(first + i) % m]? = some x
  sp : S p
  sr : ∀ k, cv.ownBlock = some k → S k
  sl : ∀ k, S k → k < w.heap.size
section
variable {w w' : World} {S fp : Nat → Prop} {p most m first : Nat} {cs q : List Int} {cv : Value}
theorem RgW.c0 (h : RgW w S p most m first cs q cv) : w.cell? ⟨p, 0, none⟩ = some (nI most) := by rw [cell_of_row w p 0 _ _ _ h.hp]; rfl
theorem RgW.c1 (h : RgW w S p most m first cs q cv) : w.cell? ⟨p, 1, none⟩ = some cv := by rw [cell_of_row w p 1 _ _ _ h.hp]; rfl
theorem RgW.c2 (h : RgW w S p most m first cs q cv) : w.cell? ⟨p, 2, none⟩ = some (nI first) := by rw [cell_of_row w p 2 _ _ _ h.hp]; rfl
theorem RgW.c3 (h : RgW w S p most m first cs q cv) : w.cell? ⟨p, 3, none⟩ = some (nI q.length) := by rw [cell_of_row w p 3 _ _ _ h.hp]; rfl
theorem RgW.fz (h : RgW w S p most m first cs q cv) (k : Nat) : w.frozen? ⟨p, k, none⟩ = false := frozen_of_row w p k _ _ h.hp
theorem RgW.lt (h : RgW w S p most m first cs q cv) : p < w.heap.size := (Array.getElem?_eq_some_iff.1 h.hp).1
theorem RgW.cl (h : RgW w S p most m first cs q cv) : cs.length = m := by have := h.row.1; simp at this; omega
theorem RgW.fr (h : RgW w S p most m first cs q cv) (hf : Fr fp w w') (hd : ∀ k, S k → ¬ fp k) : RgW w' S p most m first cs q cv :=
  ⟨(hf.block p h.lt (hd p h.sp)).trans h.hp, hf.owns h.row (fun k hk => hd k (h.sr k hk)), h.ql, h.ml, h.mx, h.fl, h.at_, h.sp, h.sr, fun k hk => Nat.lt_of_lt_of_le (h.sl k hk) hf.size⟩
theorem RgW.no (h : RgW w S p most m first cs q cv) (hf : Fr (fun _ => False) w w') : RgW w' S p most m first cs q cv := h.fr hf (fun _ _ e => e)
/-- The row's block is another one than the ring's. -/
theorem RgW.ne (h : RgW w S p most m first cs q cv) {g : Nat} (hg : cv.ownBlock = some g) : g ≠ p := fun e => by
  subst e
  rcases h.row.2 with ⟨rfl, _⟩ | ⟨g', cap, cur, rfl, _, hgb, _⟩
  · cases hg
  · cases hg
    have := h.hp
    rw [hgb] at this
    simp only [Option.some.injEq, Obj.cells.injEq] at this
    exact absurd this.2.1 (by decide)
/-- A cell of the row. -/
theorem RgW.at0 (h : RgW w S p most m first cs q cv) {i : Nat} {x : Int} (hi : q[i]? = some x) : ∃ g c, cv = .slice (some ⟨g, 0, none⟩) m c ∧ (first + i) % m < m ∧ w.cell? ⟨g, (first + i) % m, none⟩ = some (iv x) := by
  have hil := (List.getElem?_eq_some_iff.1 hi).1
  have hm : 0 < m := by have := h.ql; omega
  have hlt := Nat.mod_lt (first + i) hm
  obtain ⟨g, c, e, _⟩ := h.row.form hm
  refine ⟨g, c, e, hlt, ?_⟩
  have hr := h.row
  rw [e] at hr
  rw [hr.cellAt _ (by omega), List.getElem?_map, h.at_ i x hi]
  rfl
end
/-- A ring at a pointer, in a set of blocks. -/
def RgIn (S : Nat → Prop) (w : World) (v : Value) (most : Nat) (q : List Int) : Prop := ∃ p m first cs cv, v = .pointer (some ⟨p, 0, none⟩) ∧ RgW w S p most m first cs q cv
theorem RgIn.fr {S fp : Nat → Prop} {w w' : World} {v : Value} {most : Nat} {q : List Int} (h : RgIn S w v most q) (hf : Fr fp w w') (hd : ∀ k, S k → ¬ fp k) : RgIn S w' v most q := by
  obtain ⟨p, m, first, cs, cv, rfl, h1⟩ := h
  exact ⟨p, m, first, cs, cv, rfl, h1.fr hf hd⟩
theorem RgIn.no {S : Nat → Prop} {w w' : World} {v : Value} {most : Nat} {q : List Int} (h : RgIn S w v most q) (hf : Fr (fun _ => False) w w') : RgIn S w' v most q := h.fr hf (fun _ _ e => e)
theorem RgIn.below {S : Nat → Prop} {w w' : World} {v : Value} {most : Nat} {q : List Int} (h : RgIn S w v most q) (hb : Below w.heap.size w w') : RgIn S w' v most q := h.no (Fr.of_below hb)
theorem RgIn.ptr {S : Nat → Prop} {w : World} {v : Value} {most : Nat} {q : List Int} (h : RgIn S w v most q) : ∃ p, v = .pointer (some ⟨p, 0, none⟩) := by
  obtain ⟨p, m, first, cs, cv, rfl, _⟩ := h
  exact ⟨p, rfl⟩
theorem RgIn.lim {S : Nat → Prop} {w : World} {v : Value} {most : Nat} {q : List Int} (h : RgIn S w v most q) : q.length ≤ most ∧ most ≤ 65536 := by
  obtain ⟨p, m, first, cs, cv, rfl, h1⟩ := h
  exact ⟨Nat.le_trans h1.ql h1.ml, h1.mx⟩
theorem RgIn.lt {S : Nat → Prop} {w : World} {v : Value} {most : Nat} {q : List Int} (h : RgIn S w v most q) : ∀ k, S k → k < w.heap.size := by
  obtain ⟨p, m, first, cs, cv, rfl, h1⟩ := h
  exact h1.sl
/-- A set of blocks, and what has been laid since. -/
def exS (S : Nat → Prop) (w w' : World) (k : Nat) : Prop := S k ∨ (w.heap.size ≤ k ∧ k < w'.heap.size)
/-- New. -/
theorem Rnew_any (w : World) (mo : Int) : Calls Try.prog 7 #[iv mo] w fun e w' => Below w.heap.size w w' ∧
    (if 1 ≤ mo ∧ mo ≤ 65536 then ∃ v S, e = .returned (.tuple #[v, .int .i64 0]) ∧ (∀ b, S b → w.heap.size ≤ b) ∧ RgIn S w' v mo.toNat [] else e = .returned (.tuple #[.pointer none, .int .i64 1])) := by
  by_cases h1 : mo < 1
  · simp only [if_neg (show ¬ (1 ≤ mo ∧ mo ≤ 65536) by omega)]
    have d1 : decide (mo < 1) = true := by simpa using h1
    clear h1
    go_enter Try.func7, Try.ntmps7
    go_wp2
    go_ret2
    exact ⟨Below.refl _ _, rfl⟩
  · have d1 : decide (mo < 1) = false := by simpa using h1
    by_cases h2 : 65536 < mo
    · simp only [if_neg (show ¬ (1 ≤ mo ∧ mo ≤ 65536) by omega)]
      have d2 : decide (65536 < mo) = true := by simpa using h2
      clear h1 h2
      go_enter Try.func7, Try.ntmps7
      go_wp2
      go_ret2
      exact ⟨Below.refl _ _, rfl⟩
    · have d2 : decide (65536 < mo) = false := by simpa using h2
      simp only [if_pos (show 1 ≤ mo ∧ mo ≤ 65536 by omega)]
      have H1 := hid h1
      have H2 := hid h2
      clear h1 h2
      go_enter Try.func7, Try.ntmps7
      go_wp2
      go_ret2
      have hb : Below w.heap.size w (w.alloc (.cells #[.int .i64 mo, .slice none 0 0, .int .i64 0, .int .i64 0] TRg)) := (Below.refl _ _).alloc (Nat.le_refl _) _
      have hm : ((mo.toNat : Nat) : Int) = mo := by have := H1.out; omega
      refine ⟨hb, _, rfl, fun k => k = w.heap.size, fun b hb => by rw [hb]; exact Nat.le_refl _, w.heap.size, 0, 0, [], .slice none 0 0, rfl, ?_⟩
      refine ⟨?_, World.ownsRow_nil _ _ _ _, Nat.le_refl _, Nat.zero_le _, by have := H2.out; omega, .inl ⟨rfl, rfl⟩, fun i x h => by simp at h, rfl, fun k hk => by simp [Value.ownBlock] at hk, fun k hk => by rw [hk]; simp⟩
      simp only [nI, hm]
      exact heap_alloc_new _ _
section
variable {w w' : World} {S fp : Nat → Prop} {p most m first : Nat} {cs q : List Int} {cv : Value}
theorem Len_nil (w : World) : Calls Try.prog 14 #[.pointer none] w fun e w' => e = .returned (.int .i64 0) ∧ w = w' := by
  go_enter Try.func14, Try.ntmps14
  go_wp2
  go_ret
  exact ⟨rfl, rfl⟩
theorem Len_any (h : RgW w S p most m first cs q cv) : Calls Try.prog 14 #[.pointer (some ⟨p, 0, none⟩)] w fun e w' => e = .returned (nI q.length) ∧ w = w' := by
  have c3 := h.c3
  clear h
  go_enter Try.func14, Try.ntmps14
  go_wp2
  go_ret
  exact ⟨rfl, rfl⟩
theorem RgIn.len {v : Value} (h : RgIn S w v most q) : Calls Try.prog 14 #[v] w fun e w' => e = .returned (nI q.length) ∧ w = w' := by
  obtain ⟨p, m, first, cs, cv, rfl, h1⟩ := h
  exact Len_any h1
theorem cell_raw {a : Option Addr} {c : Nat} (i : Nat) (hi : i ≤ 65536) (hm : first < m) (hmx : m ≤ 65536) (c1 : w.cell? ⟨p, 1, none⟩ = some (.slice a m c)) (c2 : w.cell? ⟨p, 2, none⟩ = some (nI first)) : Calls Try.prog 22 #[.pointer (some ⟨p, 0, none⟩), nI i] w fun e w' => e = .returned (nI ((first + i) % m)) ∧ Fr (fun _ => False) w w' := by
  obtain ⟨z, hz⟩ : ∃ z, z = first + i := ⟨_, rfl⟩
  rw [← hz]
  obtain ⟨y, hy⟩ : ∃ y, y = z % m := ⟨_, rfl⟩
  rw [← hy]
  have hs : ((first : Int) + (i : Int)) = (z : Int) := by omega
  have hw := IntWalk.i64_in (z : Int) (by omega)
  have hr : ((z : Int)).tmod (m : Int) = (y : Int) := by rw [hy]; exact (Int.ofNat_tmod _ _).symm
  have hlt : y < m := by rw [hy]; exact Nat.mod_lt _ (by omega)
  have hw2 := IntWalk.i64_in (y : Int) (by omega)
  have hm0 : ¬ ((m : Int) = 0) := by omega
  clear hm hi hlt hz hy hmx
  go_enter Try.func22, Try.ntmps22
  go_upto_region 1 with fail
  go_quiet (fail)
  go_wp2
  go_ret
  exact ⟨rfl, (Fr.refl _ _).drewN _⟩
theorem cell_any (h : RgW w S p most m first cs q cv) (i : Nat) (hi : i ≤ 65536) (hm : 0 < m) : Calls Try.prog 22 #[.pointer (some ⟨p, 0, none⟩), nI i] w fun e w' => e = .returned (nI ((first + i) % m)) ∧ Fr (fun _ => False) w w' := by
  obtain ⟨a, c, e⟩ := own_form h.row
  have c1 := h.c1
  rw [e] at c1
  have h1 := h.ml
  have h2 := h.mx
  exact cell_raw i hi (by rcases h.fl with ⟨e, _⟩ | e <;> omega) (by omega) c1 h.c2
theorem At_low (p : Value) (w : World) (i : Int) (hi : i < 0) : Calls Try.prog 20 #[p, iv i] w fun e w' => e = .returned (.tuple #[.int .i64 0, .int .i64 12]) ∧ w = w' := by
  have d1 : decide (i < 0) = true := by simpa using hi
  clear hi
  go_enter Try.func20, Try.ntmps20
  go_wp2
  go_ret2
  exact ⟨rfl, rfl⟩
theorem At_nil (w : World) (i : Int) : Calls Try.prog 20 #[.pointer none, iv i] w fun e w' => e = .returned (.tuple #[.int .i64 0, .int .i64 12]) ∧ w = w' := by
  by_cases hi : i < 0
  · exact At_low _ w i hi
  · have d1 : decide (i < 0) = false := by simpa using hi
    have d2 : decide (0 ≤ i) = true := by simp; omega
    clear hi
    go_enter Try.func20, Try.ntmps20
    go_wp2_with (first | (go_at_call 14; refine (Len_nil _).mono ?_; rintro e w1 ⟨rfl, rfl⟩) | fail)
    go_ret2
    exact ⟨rfl, rfl⟩
theorem At_high (h : RgW w S p most m first cs q cv) (i : Int) (hi : (q.length : Int) ≤ i) : Calls Try.prog 20 #[.pointer (some ⟨p, 0, none⟩), iv i] w fun e w' => e = .returned (.tuple #[.int .i64 0, .int .i64 12]) ∧ w = w' := by
  have d1 : decide (i < 0) = false := by simp; omega
  have d2 : decide ((q.length : Int) ≤ i) = true := by simpa using hi
  have HL := hid (Len_any h)
  clear hi h
  go_enter Try.func20, Try.ntmps20
  go_wp2_with (first | (go_at_call 14; refine HL.out.mono ?_; rintro e w1 ⟨rfl, rfl⟩) | fail)
  go_ret2
  exact ⟨rfl, rfl⟩
theorem At_some (h : RgW w S p most m first cs q cv) {i : Nat} {x : Int} (hx : q[i]? = some x) : Calls Try.prog 20 #[.pointer (some ⟨p, 0, none⟩), nI i] w fun e w' => e = .returned (.tuple #[iv x, .int .i64 0]) ∧ Fr (fun _ => False) w w' := by
  have hlt := (List.getElem?_eq_some_iff.1 hx).1
  have h1 := h.ql
  have h2 := h.ml
  have h3 := h.mx
  have d1 : decide ((i : Int) < 0) = false := by simp
  have d2 : decide (q.length ≤ i) = false := by simpa using hlt
  have HL := hid (Len_any h)
  have HC := hid (fun (W : World) (hb : Fr (fun _ => False) w W) => cell_any (h.no hb) i (by omega) (by omega))
  obtain ⟨g, c, rfl, hj, hc⟩ := h.at0 hx
  have HH := hid (fun (W : World) (hb : Fr (fun _ => False) w W) => (show W.cell? ⟨p, 1, none⟩ = some (.slice (some ⟨g, 0, none⟩) m c) ∧ W.cell? ⟨g, (first + i) % m, none⟩ = some (iv x) from ⟨(h.no hb).c1, by
    obtain ⟨g2, c2, e2, _, h5⟩ := (h.no hb).at0 hx
    cases e2
    exact h5⟩))
  obtain ⟨j, hje⟩ : ∃ j, j = (first + i) % m := ⟨_, rfl⟩
  rw [← hje] at HC HH hj
  clear hje h h1 h2 h3 hlt hx hc
  go_enter Try.func20, Try.ntmps20
  go_wp2_with (first | (go_at_call 14; refine HL.out.mono ?_; rintro e w1 ⟨rfl, rfl⟩) | fail)
  have HC2 := hid (HC.out w.drew ((Fr.refl _ _).drew))
  refine D.wp_region_mix [0, 0, 0, 1, 0, 0, 2, 0, 1, 0, 0] (fun W => W.cell? ⟨p, 1, none⟩ = some (.slice (some ⟨g, 0, none⟩) m c) ∧ W.cell? ⟨g, j, none⟩ = some (iv x)) (by kernel_rfl) (by kernel_rfl) (HH.out _ ((Fr.refl _ _).drew)) ?_
  repeat (first
    | (refine' C.wpMix_value _ rfl rfl _ _; rotate_left; (solve | (intro W; go_simp) | (intro W; go_simp; with_reducible rfl)); simp only [Act.put, List.setIfInBounds_toArray, List.set_cons_zero, List.set_cons_succ])
    | (refine' C.wpMix_read _ rfl rfl _ _; rotate_left; (solve | (rintro W ⟨h1, h2⟩; go_simp) | (rintro W ⟨h1, h2⟩; go_simp; with_reducible rfl)); simp only [Act.put, List.setIfInBounds_toArray, List.set_cons_zero, List.set_cons_succ]))
  refine C.wpMix_call 22 #[.pointer (some ⟨p, 0, none⟩), nI i] (by decide) rfl (by go_simp) ?_
  refine HC2.out.mono ?_
  rintro e w2 ⟨rfl, hf2⟩
  refine ⟨_, rfl, fun _ => HH.out _ (((Fr.refl _ _).drew).trans hf2 (fun _ h _ => h)), ?_⟩
  simp only [Act.put, List.setIfInBounds_toArray, List.set_cons_zero, List.set_cons_succ]
  repeat (first
    | (refine' C.wpMix_value _ rfl rfl _ _; rotate_left; (solve | (intro W; go_simp) | (intro W; go_simp; with_reducible rfl)); simp only [Act.put, List.setIfInBounds_toArray, List.set_cons_zero, List.set_cons_succ])
    | (refine' C.wpMix_read _ rfl rfl _ _; rotate_left; (solve | (rintro W ⟨h1, h2⟩; go_simp) | (rintro W ⟨h1, h2⟩; go_simp; with_reducible rfl)); simp only [Act.put, List.setIfInBounds_toArray, List.set_cons_zero, List.set_cons_succ]))
  refine C.wpMix_end ?_
  go_wp2_with fail
  go_ret2
  exact ⟨rfl, ((Fr.refl _ _).drew).trans hf2 (fun _ h _ => h)⟩
end
end Go.Proofs.Ytmkajdfajcodjab
