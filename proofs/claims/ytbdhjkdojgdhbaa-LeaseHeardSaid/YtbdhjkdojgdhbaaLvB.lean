/-
  Leases in memory: a map of keys to ticks; their small calls.
-/
import Derived.Test.YtbdhjkdojgdhbaaLvA
import Derived.Test.YtbdhjkdojgdhbaaMpO
import Derived.Test.YtbdhjkdojgdhbaaLsC
namespace Go.Proofs.Ytbdhjkdojgdhbaa
open Go Go.ChangeShapes Go.WideShapes Go.ChangeAt Go.RowKit Go.Maps

abbrev TMp : TypeId := 55
abbrev TLz : TypeId := 57
theorem lawUi : Keyed Try.prog TU := int_keyed Try.underlying31
theorem zeroIi (w : World) : (zeroValue 3).run Try.prog w = .ok (.int .i64 0) w := by kernel_rfl
theorem keyUi {k : Int} (hk : Hn k) : keyOf Try.prog TU (.int .u64 k) = some (.int .u64 k) := keyOf_int_mk (P := Try.prog) Try.underlying31 (WalkArith.wf_u64 hk)
theorem elemIi {c : Int} (hc : 0 ≤ c ∧ c ≤ 1000000000) : plainElem (H := Unit) Try.prog 3 (.int .i64 c) = some (.lit (.int .i64 c), []) := plainElem_int (H := Unit) (P := Try.prog) Try.underlying3 (WalkArith.wf_i64 (by omega))
/-- Leases. -/
structure LeI (w : World) (p b n : Nat) (z : Lz) : Prop where
  hp : w.heap[p]? = some (.cells #[iv z.time, iv z.now, .map (some b)] TLz (0, 0))
  hm : w.ownsMap Try.prog TU (plainElem (H := Unit) Try.prog 3) b n (datO z.l)
  ne : b ≠ p
  tm : 1 ≤ z.time
  hk : ∀ x ∈ z.l, Hn x.1
section
variable {w w' : World} {p b n : Nat} {z : Lz}
theorem LeI.c0 (h : LeI w p b n z) : w.cell? ⟨p, 0, none⟩ = some (iv z.time) := by rw [cell_of_row w p 0 _ TLz _ h.hp]; rfl
theorem LeI.c1 (h : LeI w p b n z) : w.cell? ⟨p, 1, none⟩ = some (iv z.now) := by rw [cell_of_row w p 1 _ TLz _ h.hp]; rfl
theorem LeI.c2 (h : LeI w p b n z) : w.cell? ⟨p, 2, none⟩ = some (.map (some b)) := by rw [cell_of_row w p 2 _ TLz _ h.hp]; rfl
theorem LeI.fz (h : LeI w p b n z) (i : Nat) : w.frozen? ⟨p, i, none⟩ = false := frozen_of_row _ _ _ _ _ h.hp
theorem LeI.ltp (h : LeI w p b n z) : p < w.heap.size := (Array.getElem?_eq_some_iff.1 h.hp).1
theorem LeI.ltb (h : LeI w p b n z) : b < w.heap.size := h.hm.lt
theorem LeI.fit (h : LeI w p b n z) : LeI w p b z.l.length z := ⟨h.hp, by have := ownsMap_fit h.hm; rwa [datO_size] at this, h.ne, h.tm, h.hk⟩
theorem LeI.fr {fp : Nat → Prop} (h : LeI w p b n z) (hf : Fr fp w w') (hp : ¬ fp p) (hb : ¬ fp b) : LeI w' p b n z :=
  ⟨by rw [hf.block p h.ltp hp]; exact h.hp, hf.ownsMap h.hm hb, h.ne, h.tm, h.hk⟩
theorem LeI.no (h : LeI w p b n z) (hf : Fr (fun _ => False) w w') : LeI w' p b n z := h.fr hf (fun e => e) (fun e => e)
theorem LeI.look (h : LeI w p b n z) {k : Int} (hk : Hn k) : (Instr.lookup TMp (.map (some b)) (.int .u64 k) false).run Try.prog w = .ok (.int .i64 (getO k z.l)) w := by
  obtain ⟨c, hrun, hat, _⟩ := h.hm.lookup_int lawUi Try.underlying55 Try.underlying3 (zeroIi _) (keyUi hk)
  rw [datO_get] at hat
  simp only [DataW.lit.injEq, Lit.int.injEq, true_and] at hat
  rw [hrun, hat]
theorem LeI.look_ok (h : LeI w p b n z) {k : Int} (hk : Hn k) : (Instr.lookup TMp (.map (some b)) (.int .u64 k) true).run Try.prog w = .ok (.tuple #[.int .i64 (getO k z.l), .bool (hasK k z.l)]) w := by
  obtain ⟨v, ps, hrun, hv⟩ := h.hm.look_ok lawUi Try.underlying55 (zeroIi _) (elemIi (c := 0) (by omega)) (keyUi hk)
  obtain ⟨y, rfl, hc, _⟩ := plainElem_int_inv Try.underlying3 hv
  rw [datO_get] at hc
  simp only [Prod.mk.injEq, DataW.lit.injEq, Lit.int.injEq, true_and] at hc
  rw [hrun, datO_has, ← hc.1]
theorem LeI.put (h : LeI w p b n z) {k t : Int} (hk : Hn k) (ht : 0 ≤ t ∧ t ≤ 1000000000) (hn : n < 9223372036854775807) :
    ∃ w', (Instr.mapUpdate TMp (.map (some b)) (.int .u64 k) (.int .i64 t)).run Try.prog w = .ok () w' ∧ LeI w' p b (n + 1) ⟨z.time, z.now, inK k t z.l⟩ ∧ Fr (fun j => j = b) w w' := by
  obtain ⟨w', hrun, r1, r2⟩ := h.hm.store lawUi Try.underlying55 (by unfold maxLen; omega) (keyUi hk) (elemIi ht)
  rw [datO_put, ← in_lay] at r1
  refine ⟨w', hrun, ⟨?_, r1, h.ne, h.tm, fun x hx => ?_⟩, fr_mapTurned r2⟩
  · rw [(fr_mapTurned r2).block p h.ltp (fun e => h.ne e.symm)]; exact h.hp
  · rcases in_mem hx with rfl | hx
    · exact hk
    · exact h.hk x hx
end
section
variable {w w' : World} {p b n : Nat} {z : Lz}
set_option maxHeartbeats 1000000 in
theorem made_any (h : LeI w p b n z) (ht : z.time ≤ 1000000) : Calls Try.prog 29 #[.pointer (some ⟨p, 0, none⟩)] w fun e w' => e = .returned (.bool true) ∧ w = w' := by
  have c0 := h.c0
  have h1 := h.tm
  obtain ⟨T, hT⟩ : ∃ T, T = z.time := ⟨_, rfl⟩
  rw [← hT] at c0 h1 ht
  clear h hT
  go_enter Try.func29, Try.ntmps29
  go_wp2
  go_ret
  refine ⟨?_, rfl⟩
  have : decide (0 < T) = true := by simp; omega
  simp [this]
theorem made_nil (w : World) : Calls Try.prog 29 #[.pointer none] w fun e w' => e = .returned (.bool false) ∧ w = w' := by
  go_enter Try.func29, Try.ntmps29
  go_wp2
  go_ret
  exact ⟨rfl, rfl⟩
set_option maxHeartbeats 1000000 in
theorem has_any (h : LeI w p b n z) (ht : z.time ≤ 1000000) {k : Int} (hk : Hn k) : Calls Try.prog 26 #[.pointer (some ⟨p, 0, none⟩), .int .u64 k] w fun e w' => e = .returned (.bool (hasK k z.l)) ∧ w = w' := by
  have HM := hid (made_any h ht)
  have c2 := h.c2
  have hl := h.look_ok hk
  generalize getO k z.l = gv at hl
  generalize hasK k z.l = hv at hl ⊢
  clear h hk
  go_enter Try.func26, Try.ntmps26
  go_wp2_with (first
    | (go_at_call 29; refine HM.out.mono ?_; rintro e w' ⟨rfl, rfl⟩)
    | fail)
  go_ret
  exact ⟨rfl, rfl⟩
theorem has_nil (w : World) (k : Int) : Calls Try.prog 26 #[.pointer none, .int .u64 k] w fun e w' => e = .returned (.bool false) ∧ w = w' := by
  have HM := hid made_nil
  go_enter Try.func26, Try.ntmps26
  go_wp2_with (first
    | (go_at_call 29; refine (HM.out _).mono ?_; rintro e w' ⟨rfl, rfl⟩)
    | fail)
  go_ret
  exact ⟨rfl, rfl⟩
set_option maxHeartbeats 4000000 in
set_option maxRecDepth 100000 in
theorem Join_le (h : LeI w p b n z) (ht : z.time ≤ 1000000) (hnow : 0 ≤ z.now ∧ z.now ≤ 1000000000) (hn : n < 9223372036854775807) {k : Int} (hk : Hn k) :
    Calls Try.prog 17 #[.pointer (some ⟨p, 0, none⟩), .int .u64 k] w fun e w' => e = .returned (.bool (!hasK k z.l)) ∧ LeI w' p b (n + 1) (z.join k) ∧ Fr (fun j => j = b) w w' := by
  have HM := hid (made_any h ht)
  have HH := hid (has_any h ht hk)
  have hd : LeI w.drew p b n z := h.no (Fr.refl _ _).drew
  obtain ⟨w2, hr2, hi2, hf2⟩ := hd.put hk hnow hn
  have c1 := h.c1
  have c2 := h.c2
  obtain ⟨T, hT⟩ : ∃ T, T = z.now := ⟨_, rfl⟩
  rw [← hT] at hr2 c1
  have HI := hid hi2
  have HF := hid (((Fr.refl (fun j => j = b) w).drew).trans hf2 (fun _ e _ => e))
  generalize hasK k z.l = hv at HH ⊢
  clear h hd hi2 hf2 hT hk
  go_enter Try.func17, Try.ntmps17
  go_upto_region 4 with (first
    | (go_at_call 29; refine HM.out.mono ?_; rintro e w' ⟨rfl, rfl⟩)
    | (go_at_call 26; refine HH.out.mono ?_; rintro e w' ⟨rfl, rfl⟩)
    | fail)
  refine D.wp_region_mix [0, 0, 0, 1, 0, 0, 0, 0, 1, 3] (fun W => W.cell? ⟨p, 2, none⟩ = some (.map (some b)) ∧ W.cell? ⟨p, 1, none⟩ = some (iv T)) (by kernel_rfl) (by kernel_rfl) ⟨c2, c1⟩ ?_
  repeat (first
    | (refine' C.wpMix_value _ rfl rfl _ _; rotate_left; (solve | (intro W; go_simp) | (intro W; go_simp; with_reducible rfl)); simp only [Act.put, List.setIfInBounds_toArray, List.set_cons_zero, List.set_cons_succ])
    | (refine' C.wpMix_read _ rfl rfl _ _; rotate_left; (solve | (rintro W ⟨h1, h2⟩; go_simp) | (rintro W ⟨h1, h2⟩; go_simp; with_reducible rfl)); simp only [Act.put, List.setIfInBounds_toArray, List.set_cons_zero, List.set_cons_succ]))
  refine C.wpMix_skip w2 (by decide) rfl (by go_simp) (fun h => by cases h) ?_
  refine C.wpMix_end ?_
  go_wp2_with fail
  go_ret
  exact ⟨rfl, HI.out, HF.out⟩
end
end Go.Proofs.Ytbdhjkdojgdhbaa
