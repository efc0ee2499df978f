/-
  The walk through VariantChecks.
-/
import Derived.Test.YtplckmoeaeabgaaVlA
namespace Go.Proofs.Ytplckmoeaeabgaa
open Go Go.ChangeShapes Go.WideShapes Go.ChangeAt Go.RowKit

theorem ref_check (w : World) (v : Vr) (cs : List Value) (h : VIn w w.heap.size v cs) : Calls Try.prog 10 #[.agg cs.toArray, .int .i64 1] w fun e w' => e = .returned (.int .i64 (chk 8 v)) ∧ Below w.heap.size w w' := by
  have := Check_any 8 v cs w (Nat.le_refl _) h
  rw [show (9 - ((8 : Nat) : Int)) = 1 by omega] at this
  exact this
set_option maxHeartbeats 1000000 in
set_option maxRecDepth 100000 in
theorem VariantChecks_any (w : World) (v : Vr) (cs : List Value) (h : VIn w w.heap.size v cs) : Calls Try.prog 3 #[.agg cs.toArray] w fun e w' => e = .returned (.bool true) ∧ Below w.heap.size w w' := by
  obtain ⟨a, c, rfl, _⟩ := h.open
  have hb1 : Below w.heap.size w (w.alloc (.cells #[.int .i64 v.k, .int .i64 v.n, .string (strI v.s), .slice a v.l.length c] 24)) := (Below.refl _ _).alloc (Nat.le_refl _) _
  have hx1 := heap_alloc_new w (.cells #[.int .i64 v.k, .int .i64 v.n, .string (strI v.s), .slice a v.l.length c] 24)
  have HC := hid (fun W (hW : Below w.heap.size w W) => PCheck_any W v _ (VIn.on h hW))
  have HR := hid (fun W (hW : Below w.heap.size w W) => ref_check W v _ (VIn.on h hW))
  have HB1 := hid hb1
  have HX1 := hid hx1
  obtain ⟨z, hz⟩ : ∃ z, z = chk 8 v := ⟨_, rfl⟩
  rw [← hz] at HC HR
  clear h hb1 hx1 hz
  generalize v.k = k at *
  generalize v.n = n at *
  generalize strI v.s = s at *
  generalize v.l.length = L at *
  go_enter Try.func3, Try.ntmps3
  go_wp2
  obtain ⟨w1, hw1⟩ : ∃ w1, w1 = w.alloc (.cells #[.int .i64 k, .int .i64 n, .string s, .slice a L c] 24) := ⟨_, rfl⟩
  obtain ⟨bx, hbx⟩ : ∃ bx, bx = w.heap.size := ⟨_, rfl⟩
  rw [← hw1] at HB1 HX1 ⊢
  rw [← hbx] at HX1 ⊢
  have HVV := hid (fun W (hW : Below w1.heap.size w1 W) => box_cells ((hW.block bx (lt_of_heap HX1.out)).trans HX1.out))
  have HQ := hid hbx
  clear hw1 hbx
  refine D.wp_region_mix [1, 2, 1, 2, 0, 0, 2, 0, 0] (fun W => Below w1.heap.size w1 W) (by kernel_rfl) (by kernel_rfl) ((Below.refl _ w1).drew) ?_
  have HSw0 := hid ((Below.refl w1.heap.size w1).drew)
  have HBw0 := hid (HB1.out.trans (HSw0.out.mono HB1.out.size))
  repeat (first
    | (refine' C.wpMix_value _ rfl rfl _ _; rotate_left; (solve | (intro W; go_simp) | (intro W; go_simp; with_reducible rfl)); simp only [Act.put, List.setIfInBounds_toArray, List.set_cons_zero, List.set_cons_succ])
    | (refine' C.wpMix_read _ rfl rfl _ _; rotate_left; (solve | (intro W hS; obtain ⟨v0, v1, v2, v3⟩ := HVV.out W hS; go_simp) | (intro W hS; obtain ⟨v0, v1, v2, v3⟩ := HVV.out W hS; go_simp; with_reducible rfl)); simp only [Act.put, List.setIfInBounds_toArray, List.set_cons_zero, List.set_cons_succ]))
  refine C.wpMix_call 9 #[.agg #[.int .i64 k, .int .i64 n, .string s, .slice a L c]] (by decide) rfl (by go_simp) ?_
  refine (HC.out _ HBw0.out).mono ?_
  rintro e w2 ⟨rfl, hb⟩
  have HSw2 := hid (HSw0.out.trans (hb.mono HSw0.out.size))
  have HBw2 := hid (HB1.out.trans (HSw2.out.mono HB1.out.size))
  refine ⟨_, rfl, (fun _ => HSw2.out), ?_⟩
  simp only [Act.put, List.setIfInBounds_toArray, List.set_cons_zero, List.set_cons_succ]
  clear hb
  repeat (first
    | (refine' C.wpMix_value _ rfl rfl _ _; rotate_left; (solve | (intro W; go_simp) | (intro W; go_simp; with_reducible rfl)); simp only [Act.put, List.setIfInBounds_toArray, List.set_cons_zero, List.set_cons_succ])
    | (refine' C.wpMix_read _ rfl rfl _ _; rotate_left; (solve | (intro W hS; obtain ⟨v0, v1, v2, v3⟩ := HVV.out W hS; go_simp) | (intro W hS; obtain ⟨v0, v1, v2, v3⟩ := HVV.out W hS; go_simp; with_reducible rfl)); simp only [Act.put, List.setIfInBounds_toArray, List.set_cons_zero, List.set_cons_succ]))
  refine C.wpMix_call 10 #[.agg #[.int .i64 k, .int .i64 n, .string s, .slice a L c], .int .i64 1] (by decide) rfl (by go_simp) ?_
  refine (HR.out _ HBw2.out).mono ?_
  rintro e w3 ⟨rfl, hb⟩
  have HSw3 := hid (HSw2.out.trans (hb.mono HSw2.out.size))
  have HBw3 := hid (HB1.out.trans (HSw3.out.mono HB1.out.size))
  refine ⟨_, rfl, (fun _ => HSw3.out), ?_⟩
  simp only [Act.put, List.setIfInBounds_toArray, List.set_cons_zero, List.set_cons_succ]
  clear hb
  repeat (first
    | (refine' C.wpMix_value _ rfl rfl _ _; rotate_left; (solve | (intro W; go_simp) | (intro W; go_simp; with_reducible rfl)); simp only [Act.put, List.setIfInBounds_toArray, List.set_cons_zero, List.set_cons_succ])
    | (refine' C.wpMix_read _ rfl rfl _ _; rotate_left; (solve | (intro W hS; obtain ⟨v0, v1, v2, v3⟩ := HVV.out W hS; go_simp) | (intro W hS; obtain ⟨v0, v1, v2, v3⟩ := HVV.out W hS; go_simp; with_reducible rfl)); simp only [Act.put, List.setIfInBounds_toArray, List.set_cons_zero, List.set_cons_succ]))
  refine C.wpMix_call 11 #[] (by decide) rfl (by go_simp) ?_
  refine (awake_any _).mono ?_
  rintro e w4 ⟨rfl, hb⟩
  have HSw4 := hid (HSw3.out.trans (hb.mono HSw3.out.size))
  have HBw4 := hid (HB1.out.trans (HSw4.out.mono HB1.out.size))
  refine ⟨_, rfl, (fun _ => HSw4.out), ?_⟩
  simp only [Act.put, List.setIfInBounds_toArray, List.set_cons_zero, List.set_cons_succ]
  clear hb
  repeat (first
    | (refine' C.wpMix_value _ rfl rfl _ _; rotate_left; (solve | (intro W; go_simp) | (intro W; go_simp; with_reducible rfl)); simp only [Act.put, List.setIfInBounds_toArray, List.set_cons_zero, List.set_cons_succ])
    | (refine' C.wpMix_read _ rfl rfl _ _; rotate_left; (solve | (intro W hS; obtain ⟨v0, v1, v2, v3⟩ := HVV.out W hS; go_simp) | (intro W hS; obtain ⟨v0, v1, v2, v3⟩ := HVV.out W hS; go_simp; with_reducible rfl)); simp only [Act.put, List.setIfInBounds_toArray, List.set_cons_zero, List.set_cons_succ]))
  refine C.wpMix_end ?_
  go_wp2
  go_ret
  exact ⟨rfl, HBw4.out⟩
end Go.Proofs.Ytplckmoeaeabgaa
