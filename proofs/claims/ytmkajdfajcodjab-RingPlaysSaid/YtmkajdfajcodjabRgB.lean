/-
  A ring's row: a copy of what waits.
-/
import Derived.Test.YtmkajdfajcodjabRgA
import Derived.Test.YtmkajdfajcodjabGen
import Derived.Laws.MakeOwn
namespace Go.Proofs.Ytmkajdfajcodjab
open Go Go.ChangeShapes Go.WideShapes Go.ChangeAt Go.RowKit

theorem exec_makeC {P : Program} {o : Oper} {f : Operand → Value} {W : World} {p : Operand} {st e : TypeId} {k n bytes : Nat} {z : Value} (hu : P.underlying st = some (.slice e)) (hinfo : (P.info? e).map (fun i => (i.zero, i.size, i.bytes)) = some (some z, k, bytes)) (hn : n ≤ 200000) (hb : bytes ≤ 1000)
    (ho : o.op = .makeSlice st p p) (hp : f p = .int .i64 (n : Int)) :
    (execOp f o).run P W = .ok (.value (.slice (some ⟨W.heap.size, 0, none⟩) n n)) (W.alloc (.cells (madeCells z.cells (n * k)) e)) := by
  obtain ⟨i, hi, hz⟩ := Option.map_eq_some_iff.1 hinfo
  simp only [Prod.mk.injEq] at hz
  obtain ⟨h1, h2, h3⟩ := hz
  have hbn : bytes * n ≤ 1000 * 200000 := Nat.mul_le_mul hb hn
  have hbn' : (bytes : Int) * (n : Int) ≤ 281474976710656 := by
    have : ((bytes * n : Nat) : Int) ≤ 281474976710656 := by omega
    rwa [Int.natCast_mul] at this
  have hr := run_make (P := P) W st e i z hu hi h1 .i64 .i64 n n (by omega) (Int.le_refl _) (by rw [h3]; exact hbn') (by omega)
  simp only [Int.toNat_natCast, h2] at hr
  unfold execOp
  simp only [ho, hp, Sem.run_bind, hr, Result.andThen_ok, Sem.run_pure]
theorem made_list (n : Nat) : (madeCells #[.int .i64 0] n).toList = (List.replicate n (0 : Int)).map iv := by
  unfold madeCells
  rw [Array.toList_map, Array.toList_range, List.map_replicate]
  refine List.ext_getElem (by simp) fun j h1 h2 => ?_
  simp [Nat.mod_one]
/-- A row just made. -/
theorem made_own (w : World) (n : Nat) (hn : n ≤ 200000) : (w.alloc (.cells (madeCells #[.int .i64 0] n) TI)).ownsRow w.heap.size TI 1 (.slice (some ⟨w.heap.size, 0, none⟩) n n) n ((List.replicate n (0 : Int)).map iv) := by
  refine ⟨by simp, .inr ⟨w.heap.size, n, madeCells #[.int .i64 0] n, rfl, Nat.le_refl _, heap_alloc_new _ _, Nat.le_refl _, by unfold maxLen; omega, by simp [size_madeCells], ?_⟩⟩
  rw [made_list, Nat.mul_one, List.take_of_length_le (by simp)]
/-- A cell of a row of one's own is another one. -/
theorem own_set {w : World} {B g n c i : Nat} {T : TypeId} {α : Type} {f : α → Value} {xs : List α} (h : w.ownsRow B T 1 (.slice (some ⟨g, 0, none⟩) n c) n (xs.map f)) (x : α) :
    (w.setCell ⟨g, i, none⟩ (f x)).ownsRow B T 1 (.slice (some ⟨g, 0, none⟩) n c) n ((xs.set i x).map f) := by
  refine ⟨by have := h.1; simpa using this, ?_⟩
  rcases h.2 with ⟨h1, _⟩ | ⟨g', cap, cur, h1, h2, h3, h4, h5, h6, h7⟩
  · cases h1
  · cases h1
    refine .inr ⟨g, c, cur.setIfInBounds i (f x), rfl, h2, heap_setCell_same _ _ _ _ _ _ h3, h4, h5, by simpa using h6, ?_⟩
    rw [Array.toList_setIfInBounds, List.take_set, h7, List.map_set]
/-- What one who reads a ring asks of it. -/
structure RdQ (w : World) (v : Value) (q : List Int) : Prop where
  ptr : v = .pointer none ∨ ∃ p, v = .pointer (some ⟨p, 0, none⟩)
  len : ∀ W, Fr (fun _ => False) w W → Calls Try.prog 14 #[v] W fun e w' => e = .returned (nI q.length) ∧ W = w'
  ln : q.length ≤ 65536
  at_ : ∀ (i : Nat) x, q[i]? = some x → ∃ p g c j m, v = .pointer (some ⟨p, 0, none⟩) ∧ j < m ∧ g < w.heap.size ∧ ∀ W, Fr (fun _ => False) w W → W.cell? ⟨p, 1, none⟩ = some (.slice (some ⟨g, 0, none⟩) m c) ∧ W.cell? ⟨g, j, none⟩ = some (iv x) ∧ Calls Try.prog 22 #[v, nI i] W fun e w' => e = .returned (nI j) ∧ Fr (fun _ => False) W w'
theorem RdQ.no {w w' : World} {v : Value} {q : List Int} (h : RdQ w v q) (hf : Fr (fun _ => False) w w') : RdQ w' v q :=
  ⟨h.ptr, fun W hW => h.len W (hf.trans hW (fun _ e _ => e)), h.ln, fun i x hx => by
    obtain ⟨p, g, c, j, m, h1, h2, h3, h4⟩ := h.at_ i x hx
    exact ⟨p, g, c, j, m, h1, h2, Nat.lt_of_lt_of_le h3 hf.size, fun W hW => h4 W (hf.trans hW (fun _ e _ => e))⟩⟩
theorem RdQ.nil (w : World) : RdQ w (.pointer none) [] := ⟨.inl rfl, fun W _ => Len_nil W, by simp, fun i x h => by simp at h⟩
theorem RgIn.rdq {S : Nat → Prop} {w : World} {v : Value} {most : Nat} {q : List Int} (h : RgIn S w v most q) : RdQ w v q := by
  have hl := h.lim
  obtain ⟨p, m, first, cs, cv, rfl, h1⟩ := h
  refine ⟨.inr ⟨p, rfl⟩, fun W hW => Len_any (h1.no hW), by omega, fun i x hx => ?_⟩
  obtain ⟨g, c, e, hj, hc⟩ := h1.at0 hx
  have hil := (List.getElem?_eq_some_iff.1 hx).1
  have hql := h1.ql
  have hml := h1.ml
  have hmx := h1.mx
  refine ⟨p, g, c, (first + i) % m, m, rfl, hj, World.block_lt_of_cell? w _ hc, fun W hW => ⟨?_, ?_, cell_any (h1.no hW) i (by omega) (by omega)⟩⟩
  · rw [← e]; exact (h1.no hW).c1
  · obtain ⟨g2, c2, e2, _, h5⟩ := (h1.no hW).at0 hx
    rw [e] at e2
    cases e2
    exact h5
def RowPost (w : World) (q : List Int) (e : Ending) (w' : World) : Prop := ∃ v', e = .returned v' ∧ w'.ownsRow w.heap.size TI 1 v' q.length (q.map iv) ∧ Below w.heap.size w w'
set_option maxHeartbeats 4000000 in
theorem row_any {w : World} {v : Value} {q : List Int} (h : RdQ w v q) : Calls Try.prog 26 #[v] w (RowPost w q) := by
  have HL := hid (h.len w (Fr.refl _ _))
  have HQ := hid h
  have hn := h.ln
  obtain ⟨n, hne⟩ : ∃ n, n = q.length := ⟨_, rfl⟩
  rw [← hne] at HL hn
  have HN := hid hne
  obtain ⟨B, hB⟩ : ∃ B, B = w.heap.size := ⟨_, rfl⟩
  obtain ⟨w1, hw1⟩ : ∃ w1, w1 = w.alloc (.cells (madeCells #[.int .i64 0] n) TI) := ⟨_, rfl⟩
  have hfr : Fr (fun _ => False) w w1 := by rw [hw1]; exact (Fr.refl _ _).alloc _
  have how := made_own w n (by omega)
  rw [← hw1, ← hB] at how
  have HW1 := hid hw1
  have HB := hid hB
  have HFR := hid hfr
  have HOW := hid (show w1.ownsRow B TI 1 (.slice (some ⟨B, 0, none⟩) n n) n ((q.take 0 ++ List.replicate (n - 0) 0).map iv) from how)
  have hpt := h.ptr
  clear h hne hw1 hfr how hB
  go_enter Try.func26, Try.ntmps26
  go_upto_region 1 with fail
  go_upto_region 2 with (first
    | (go_at_call 14; refine HL.out.mono ?_; rintro e w' ⟨rfl, rfl⟩)
    | ((with_reducible refine at_op ⟨some 7, _, _, _, _, _⟩ ?_); go_loud (refine wpList_runN rfl _ _ (exec_makeC (n := n) Try.underlying22 infoI (by omega) (by omega) rfl rfl) ?_)))
  rw [← HW1.out, ← HB.out]
  clear HL
  go_wp2_with fail
  go_loopw [10] (fun i wr => ∃ k : Nat, k ≤ n ∧ i = .int .i64 k ∧ RowKit.Hid (wr.ownsRow B TI 1 (.slice (some ⟨B, 0, none⟩) n n) n ((q.take k ++ List.replicate (n - k) 0).map iv)) ∧ RowKit.Hid (Fr (fun _ => False) w wr)) (fun i _ => n - (intOf i).toNat)
  case atStart => exact ⟨0, by omega, rfl, HOW, HFR⟩
  case round =>
    obtain ⟨k, hk, rfl, HR, HF⟩ := hrel
    by_cases hkn : k < n
    · have hlt : k < q.length := by rw [← HN.out]; exact hkn
      have hx : q[k]? = some q[k] := List.getElem?_eq_getElem hlt
      generalize q[k] = x at hx
      obtain ⟨p, g, c, j, m, rfl, hjm, hgl, hrd⟩ := HQ.out.at_ k x hx
      have hrow := HR.out
      have hBl := (hrow.lt B rfl).2
      have hfz : ∀ W, Fr (fun _ => False) wr W → W.cell? ⟨B, k, none⟩ = some (iv 0) ∧ W.frozen? ⟨B, k, none⟩ = false := fun W hW => by
        have h1 := hW.owns hrow (fun _ _ e => e)
        rcases h1.2 with ⟨h2, _⟩ | ⟨g', cap, cur, h2, _, h3, _⟩
        · cases h2
        · cases h2
          refine ⟨?_, frozen_of_row _ _ _ _ _ h3⟩
          rw [h1.cellAt k (by omega), List.getElem?_map, List.getElem?_append_right (by rw [List.length_take]; omega), List.length_take, Nat.min_eq_left (by omega), Nat.sub_self, List.getElem?_replicate, if_pos (by omega)]
          rfl
      have hst : (q.take k ++ List.replicate (n - k) (0 : Int)).set k x = q.take (k + 1) ++ List.replicate (n - (k + 1)) 0 := by
        have e1 : n - k = (n - (k + 1)) + 1 := by omega
        have e2 : (q.take k).length = k := by rw [List.length_take]; omega
        rw [e1, List.replicate_succ, List.set_append_right _ _ (by omega), e2, Nat.sub_self, List.set_cons_zero, List.take_add_one, hx]
        simp
      have HST := hid hst
      have HFZ := hid hfz
      have HRD := hid (fun W (hW : Fr (fun _ => False) wr W) => hrd W (HF.out.trans hW (fun _ e _ => e)))
      have HC := hid (HRD.out wr.drew ((Fr.refl _ _).drew)).2.2
      clear hx hlt hrow hst hrd hfz hpt
      go_upto_region 5 with fail
      refine D.wp_region_mix [0, 0, 0, 0, 0, 1, 0, 0, 2, 0, 1, 0, 3] (fun W => W.cell? ⟨p, 1, none⟩ = some (.slice (some ⟨g, 0, none⟩) m c) ∧ W.cell? ⟨g, j, none⟩ = some (iv x)) (by kernel_rfl) (by kernel_rfl) (by have h := HRD.out wr.drew ((Fr.refl _ _).drew); exact ⟨h.1, h.2.1⟩) ?_
      repeat (first
        | (refine' C.wpMix_value _ rfl rfl _ _; rotate_left; (solve | (intro W; go_simp) | (intro W; go_simp; with_reducible rfl)); simp only [Act.put, List.setIfInBounds_toArray, List.set_cons_zero, List.set_cons_succ])
        | (refine' C.wpMix_read _ rfl rfl _ _; rotate_left; (solve | (rintro W ⟨h1, h2⟩; go_simp) | (rintro W ⟨h1, h2⟩; go_simp; with_reducible rfl)); simp only [Act.put, List.setIfInBounds_toArray, List.set_cons_zero, List.set_cons_succ]))
      refine C.wpMix_call 22 #[.pointer (some ⟨p, 0, none⟩), nI k] (by decide) rfl (by go_simp) ?_
      refine HC.out.mono ?_
      rintro e w2 ⟨rfl, hf2⟩
      have hf3 : Fr (fun _ => False) wr w2 := ((Fr.refl _ _).drew).trans hf2 (fun _ h _ => h)
      obtain ⟨q1, q2, _⟩ := HRD.out w2 hf3
      refine ⟨_, rfl, fun _ => ⟨q1, q2⟩, ?_⟩
      simp only [Act.put, List.setIfInBounds_toArray, List.set_cons_zero, List.set_cons_succ]
      repeat (first
        | (refine' C.wpMix_value _ rfl rfl _ _; rotate_left; (solve | (intro W; go_simp) | (intro W; go_simp; with_reducible rfl)); simp only [Act.put, List.setIfInBounds_toArray, List.set_cons_zero, List.set_cons_succ])
        | (refine' C.wpMix_read _ rfl rfl _ _; rotate_left; (solve | (rintro W ⟨h1, h2⟩; go_simp) | (rintro W ⟨h1, h2⟩; go_simp; with_reducible rfl)); simp only [Act.put, List.setIfInBounds_toArray, List.set_cons_zero, List.set_cons_succ]))
      obtain ⟨z1, z2⟩ := HFZ.out w2 hf3
      refine C.wpMix_skip (w2.setCell ⟨B, k, none⟩ (iv x)) (by decide) rfl (by go_simp) (fun h => by cases h) ?_
      simp only [Act.put]
      refine C.wpMix_end ?_
      have HR3 := hid (show (w2.setCell ⟨B, k, none⟩ (iv x)).ownsRow B TI 1 (.slice (some ⟨B, 0, none⟩) n n) n ((q.take (k + 1) ++ List.replicate (n - (k + 1)) 0).map iv) by
        rw [← HST.out]; exact own_set (hf3.owns HR.out (fun _ _ e => e)) x)
      have HF3 := hid ((HF.out.trans hf3 (fun _ e _ => e)).setCell ⟨B, k, none⟩ (iv x) (fun h => by have := HB.out; simp at h; omega))
      clear z1 z2 q1 q2 hf2 hf3 HR HF
      go_wp2_with fail
      go_roundw
      case rel => exact ⟨k + 1, by omega, by go_num, HR3, HF3⟩
      case measure => simp [intOf]; omega
    · obtain rfl : k = n := by omega
      have hr := HR.out
      rw [Nat.sub_self, List.replicate_zero, List.append_nil, HN.out, List.take_length, ← HN.out] at hr
      have HR2 := hid hr
      clear hr HR
      go_wp2_with fail
      go_ret
      have hr := HR2.out
      rw [HB.out] at hr ⊢
      exact ⟨_, rfl, by rw [← HN.out]; exact hr, HF.out.below (Nat.le_refl _) (fun b hb => hb.elim)⟩
end Go.Proofs.Ytmkajdfajcodjab
