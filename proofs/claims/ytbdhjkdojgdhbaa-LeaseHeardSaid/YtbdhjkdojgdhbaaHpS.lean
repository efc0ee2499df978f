/-
  The contract of SameLongs, of rows that are told and alike.
-/
import Derived.Test.YtbdhjkdojgdhbaaHpR
import Derived.Test.YtbdhjkdojgdhbaaNum
import Derived.Test.YtbdhjkdojgdhbaaMixD
import Derived.Deep.Cut
namespace Go.Proofs.Ytbdhjkdojgdhbaa
open Go Go.ChangeShapes Go.WideShapes Go.ChangeAt Go.RowKit

set_option maxHeartbeats 2000000 in
set_option maxRecDepth 100000 in
theorem SameLongs_told (w : World) (va vb : Value) (xs : List Int) (ha : Told TU u64v w va xs) (hb : Told TU u64v w vb xs) :
    Calls Try.prog 22 #[va, vb] w fun e w' => e = .returned (.bool true) ∧ Below w.heap.size w w' := by
  obtain ⟨a, ka, rfl, hka, hka2, hA⟩ := ha.ex
  obtain ⟨a', kb, rfl, hkb, hkb2, hB⟩ := hb.ex
  obtain ⟨n, hn⟩ : ∃ n, n = xs.length := ⟨_, rfl⟩
  rw [← hn] at hka hkb hA hB ⊢
  have HLEN := hid hn
  have HA := hid hA
  have HB := hid hB
  have HB0 := hid (Below.refl w.heap.size w)
  clear ha hb hA hB hn
  go_enter Try.func22, Try.ntmps22
  go_wp2
  go_loopw [5] (fun i wr => ∃ q : Nat, q ≤ n ∧ i = .int .i64 q ∧ RowKit.Hid (Below w.heap.size w wr)) (fun i _ => n - (intOf i).toNat)
  case atStart => exact ⟨0, by omega, rfl, HB0⟩
  case round =>
    obtain ⟨q, hq, rfl, HBr⟩ := hrel
    by_cases hqn : q < n
    · have hx : xs[q]? = some (xs[q]'(by rw [← HLEN.out]; exact hqn)) := List.getElem?_eq_getElem _
      generalize xs[q]'(by rw [← HLEN.out]; exact hqn) = z at hx
      obtain ⟨g, o, rfl, hg, hc⟩ := HA.out (by omega)
      obtain ⟨g', o', rfl, hg', hc'⟩ := HB.out (by omega)
      have e0 : wr.cell? ⟨g, o + q, none⟩ = some (.int .u64 z) := (World.cell?_of_block (w := w) (w' := wr) (a := ⟨g, o + q, none⟩) (HBr.out.block g hg)).trans (hc q _ (by rw [List.getElem?_map, hx]; rfl))
      have e1 : wr.cell? ⟨g', o' + q, none⟩ = some (.int .u64 z) := (World.cell?_of_block (w := w) (w' := wr) (a := ⟨g', o' + q, none⟩) (HBr.out.block g' hg')).trans (hc' q _ (by rw [List.getElem?_map, hx]; rfl))
      have HBd := hid (HBr.out.drew)
      have hne : (z != z) = false := by simp
      clear hx hc hc'
      go_wp2
      refine D.wp_region_mix [0, 0, 0, 1, 0, 0, 0, 1, 0] (fun W => W = wr.drew) (by kernel_rfl) (by kernel_rfl) rfl ?_
      repeat (first
        | (refine' C.wpMix_value _ rfl rfl _ _; rotate_left; (solve | (intro W; go_simp) | (intro W; go_simp; with_reducible rfl)); simp only [Act.put, List.setIfInBounds_toArray, List.set_cons_zero, List.set_cons_succ])
        | (refine' C.wpMix_read _ rfl rfl _ _; rotate_left; (solve | (rintro W rfl; go_simp) | (rintro W rfl; go_simp; with_reducible rfl)); simp only [Act.put, List.setIfInBounds_toArray, List.set_cons_zero, List.set_cons_succ]))
      refine C.wpMix_end ?_
      go_wp2
      go_roundw
      case rel => exact ⟨q + 1, by omega, by go_num, HBd⟩
      case measure => simp [intOf]; omega
    · obtain rfl : q = n := by omega
      go_wp2
      go_ret
      exact ⟨rfl, HBr.out⟩
end Go.Proofs.Ytbdhjkdojgdhbaa
