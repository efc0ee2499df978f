/-
  LeaseHeard: the law's Go function answers true, whatever it is given; no condition.
-/
import Derived.Test.YtbdhjkdojgdhbaaLsFrame
import Derived.Test.YtbdhjkdojgdhbaaLsV
import Derived.Test.YtbdhjkdojgdhbaaLvJ
namespace Go.Proofs.Ytbdhjkdojgdhbaa.leaseHeard
open Go Go.ChangeShapes Go.WideShapes Go.ChangeAt Go.RowKit

set_option maxRecDepth 100000 in
theorem lifted (os : Os) (started : os.Started) (H : Type) (enc : TypeId × Value → H) :
    ReturnsInHanded {} Try.checked os 5 .any (Rows.leaseHeardSpec.pre6 enc Try.prog Try.f5 Rows.leaseHeardRow.domain false) (Rows.leaseHeardSpec.post enc Try.prog Try.f5 false true false false) := by
  refine returnsInHanded_of_change (C := Try.checked) own started (by kernel_rfl) Try.func5
    (ChangeSpec.witness6 (enc := enc) (C := Try.checked) false ⟨#[], #[.int .i64 0, .int .i64 0, .slice none 0 0, .slice none 0 0], []⟩ 8 (by kernel_rfl) (by kernel_rfl) (by kernel_rfl) (by kernel_rfl)) ?_
  intro W base args ds gs before hval0 hW hcnd _
  have hval : ∀ (j : Nat) t v, Try.f5.params[j]? = some t → args[j]? = some v → Value.okWide Try.prog W .any base t v := hval0
  have hW' := hW
  obtain ⟨p, q, hA0, hV, rfl, hfz, hnd⟩ := hW
  have hA : DataW.TrodAll enc Try.prog W 0 (fun _ => true) true Try.f5.params.toList args.toList ds p := hA0
  rw [Try.params5] at hA hval
  obtain ⟨v0, vs0, d0, ds0, p0, q0, hargs, rfl, rfl, r_0, s_0⟩ := trodAll_cons hA
  obtain ⟨v1, vs1, d1, ds1, p1, q1, rfl, rfl, rfl, r_1, s_1⟩ := trodAll_cons s_0
  obtain ⟨v2, vs2, d2, ds2, p2, q2, rfl, rfl, rfl, r_2, s_2⟩ := trodAll_cons s_1
  obtain ⟨v3, vs3, d3, ds3, p3, q3, rfl, rfl, rfl, r_3, s_3⟩ := trodAll_cons s_2
  obtain ⟨rfl, rfl, rfl⟩ := trodAll_nil s_3
  obtain rfl : args = #[v0, v1, v2, v3] := by cases args; simp_all
  obtain ⟨rfl, rfl⟩ := trodVars_none hV
  have k0 := r_0
  have lt0 : ∀ x ∈ p0, x.block < W.heap.size := by obtain ⟨m, hm⟩ := k0; exact DataW.trod_lt m _ _ _ hm
  obtain ⟨a0, rfl, _, _, h0⟩ := open_int Try.underlying3 (hval 0 3 v0 rfl rfl) r_0
  have k1 := r_1
  have lt1 : ∀ x ∈ p1, x.block < W.heap.size := by obtain ⟨m, hm⟩ := k1; exact DataW.trod_lt m _ _ _ hm
  obtain ⟨a1, rfl, _, _, h1⟩ := open_int Try.underlying3 (hval 1 3 v1 rfl rfl) r_1
  have k2 := r_2
  have lt2 : ∀ x ∈ p2, x.block < W.heap.size := by obtain ⟨m, hm⟩ := k2; exact DataW.trod_lt m _ _ _ hm
  obtain ⟨ad2, l2, cp2, rfl, h2, n2⟩ := open_ints (hval 2 48 v2 rfl rfl) r_2
  have k3 := r_3
  have lt3 : ∀ x ∈ p3, x.block < W.heap.size := by obtain ⟨m, hm⟩ := k3; exact DataW.trod_lt m _ _ _ hm
  obtain ⟨ad3, l3, cp3, rfl, h3, n3⟩ := open_acts (hval 3 22 v3 rfl rfl) r_3
  clear hA0 hval0
  refine (LeaseHeard_any leC W a0 a1 ad2 cp2 l2 ad3 cp3 l3 (bounds_i64 h0) (bounds_i64 h1) h2 n2 h3 n3).mono fun e W' ⟨he, bel⟩ => ?_
  subst he
  exact ⟨_, rfl, _, _, _, [], _, [], hW', trodAll_mk1 (shut_bool Try.underlying4 _), (trodAll_cons_mk (Below.trod laidOut (by kernel_rfl) (of_decide_eq_true (by kernel_rfl)) k0 bel lt0) (trodAll_cons_mk (Below.trod laidOut (by kernel_rfl) (of_decide_eq_true (by kernel_rfl)) k1 bel lt1) (trodAll_cons_mk (Below.trod laidOut (by kernel_rfl) (of_decide_eq_true (by kernel_rfl)) k2 bel lt2) (trodAll_cons_mk (Below.trod laidOut (by kernel_rfl) (of_decide_eq_true (by kernel_rfl)) k3 bel lt3) trodAll_mk0)))), rfl, bel.frame _, fun h => by cases h⟩

theorem over : Rows.leaseHeardRow.holds Try.pinned (OpenSpec.ofChange Rows.leaseHeardSpec) :=
  OpenClaim.holds_of_wide 5 Try.f5 rfl rfl rfl rfl rfl rfl rfl ⟨rfl, rfl, rfl, rfl, rfl⟩ rfl rfl rfl rfl rfl (by kernel_rfl) Try.func5 (by kernel_rfl)
    (of_decide_eq_true (by kernel_rfl)) (by unfold Func.isWrapper; first | (rw [if_pos (by decide +kernel)]; kernel_rfl) | (rw [if_neg (by decide +kernel)]; exact ⟨rfl, rfl⟩))
    (fun os started H enc _ => lifted os started H enc)

theorem proved : Rows.LeaseHeardSaid := over
#print axioms proved
end Go.Proofs.Ytbdhjkdojgdhbaa.leaseHeard
