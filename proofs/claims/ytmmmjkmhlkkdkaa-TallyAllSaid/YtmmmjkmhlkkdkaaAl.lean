/-
  TallyAll's walk.
-/
import Derived.Test.YtmmmjkmhlkkdkaaRfE
import Derived.Test.YtmmmjkmhlkkdkaaPick
namespace Go.Proofs.Ytmmmjkmhlkkdkaa
open Go.ChangeShapes Go.WideShapes Go.ChangeAt Go.RowKit Go.Maps Go.Shelf

/-- Between two acts. -/
theorem slice_run (g n vk q : Nat) (W : World) (hq : q ≤ vk) (_ : vk ≤ 9223372036854775807) : (Instr.slice 27 (.slice (some ⟨g, 0, none⟩) n vk) none (some (.int .i64 q)) none).run Try.prog W = .ok (.slice (some ⟨g, 0, none⟩) q vk) W := by
  have u := Try.underlying27
  have z := Try.sizeOf60
  have hq2 : (q : Int) ≤ vk := by omega
  go_simp
theorem nil_slice (W : World) : (Instr.slice 27 (.slice none 0 0) none (some (.int .i64 (0 : Nat))) none).run Try.prog W = .ok (.slice none 0 0) W := by kernel_rfl
/-- The first ones of a slice. -/
theorem slice_any {w : World} {B : Nat} {va : Option Addr} {vk : Nat} {l : TM} (h : w.ownsRow B 60 2 (.slice va l.length vk) l.length (l.flatMap encE)) (q : Nat) (hq : q ≤ l.length) (W : World) :
    (Instr.slice 27 (.slice va l.length vk) none (some (.int .i64 q)) none).run Try.prog W = .ok (.slice va q vk) W := by
  rcases h.2 with ⟨h1, h2⟩ | ⟨g, cap, cur, h1, _, _, h2, h3, _⟩
  · simp only [Value.slice.injEq] at h1
    obtain ⟨rfl, h4, rfl⟩ := h1
    rw [h2] at hq ⊢
    obtain rfl : q = 0 := by omega
    exact nil_slice W
  · simp only [Value.slice.injEq] at h1
    obtain ⟨rfl, _, rfl⟩ := h1
    exact slice_run g l.length vk q W (by omega) h3
def AllInv (w0 : World) (k : Nat) (most : Int) (wr : World) : Prop :=
  ∃ M R lv, PairW wr (w0.heap.size + 1) w0.heap.size k (w0.heap.size + 1 + 1) most M R lv ∧ Below w0.heap.size w0 wr
theorem below_drew {w : World} : Below w.heap.size w w.drew := (Below.refl _ _).drew

set_option maxHeartbeats 4000000 in
set_option maxRecDepth 100000 in
theorem All_any (w : World) (m : Int) (ad : Option Addr) (cap : Nat) (l : List Act3) (st : Int) (hm : U32 m) (hl : Acts w w.heap.size ad l) (hll : l.length ≤ 9223372036854775807) (hst : I64 st) : Calls Try.prog 3 #[.int .u32 m, .slice ad l.length cap, .int .i64 st] w fun e w' => e = .returned (.bool true) ∧ Below w.heap.size w w' := by
  have HL := hid hl
  have HN := hid (New_tl m w hm.1 hm.2)
  have HN2 := hid (New_any m w)
  have HLL := hid hll
  have HST := hid hst
  clear hl hll hst
  go_enter Try.func3, Try.ntmps3
  go_wp2_with fail
  refine HN2.out.mono ?_
  rintro e w1 ⟨rfl, hw1⟩
  have t1 : TlW w1 (w.heap.size + 1) w.heap.size 0 m [] := by
    rw [hw1]
    exact ⟨by have := heap_alloc_new (w.alloc (.map #[] 0)) (.cells #[.int .u32 m, .map (some w.heap.size)] 56); simpa using this, (World.ownsMap_made w _ _ _).alloc _, by omega, hm.1, hm.2, Good.nil m⟩
  have b1 : Below w.heap.size w w1 := by rw [hw1]; exact ((Below.refl _ _).alloc (Nat.le_refl _) _).alloc (by simp) _
  have hz1 : w1.heap.size = w.heap.size + 1 + 1 := by rw [hw1]; simp
  have HZ := hid hz1
  have T1 := hid t1
  have B1 := hid b1
  clear hw1 t1 b1 hz1 HN HN2
  go_wp2
  have hp0 : AllInv w 0 m (w1.alloc (.cells #[.int .u32 m, .slice none 0 0] 29)) := by
    refine ⟨[], [], .slice none 0 0, ⟨T1.out.fr ((Fr.refl (fun _ => False) w1).alloc _) (fun h => h) (fun h => h), ⟨by rw [← HZ.out]; exact heap_alloc_new _ _, World.ownsRow_nil _ _ _ _⟩, ⟨List.Pairwise.nil, by simp, by simp⟩, rfl, by omega, by omega, by simp⟩, B1.out.alloc B1.out.size _⟩
  have HP0 := hid hp0
  clear hp0
  rw [HZ.out]
  go_loopw [9] (fun i wr => ∃ k : Nat, k ≤ l.length ∧ k ≤ 200 ∧ i = .int .i64 k ∧ RowKit.Hid (AllInv w k m wr)) (fun i _ => 200 - (intOf i).toNat)
  case atStart => exact ⟨0, by omega, by omega, rfl, HP0⟩
  case round =>
    obtain ⟨k, hk1, hk2, rfl, HI⟩ := hrel
    obtain ⟨M, R, lv, hP, hB⟩ := HI.out
    have HP := hid hP
    have HB := hid hB
    clear hP hB HP0 HI
    by_cases hlt : k < l.length ∧ k < 200
    · obtain ⟨hkl, hk200⟩ := hlt
      have hx : l[k]? = some l[k] := List.getElem?_eq_getElem hkl
      have hxok := HL.out.ok l[k] (List.getElem_mem hkl)
      generalize l[k] = x at hx hxok
      obtain ⟨a, rfl, hab⟩ := HL.out.some (by omega)
      have hac := HL.out.below HB.out
      have x0 := hac.at0 k a x rfl hx
      have x1 := hac.at1 k a x rfl hx
      have x2 := hac.at2 k a x rfl hx
      have HDO := hid (Do_any wr _ _ _ _ _ M R lv x HP.out (by omega) hxok.1 hxok.2)
      clear hac hx hxok
      go_wp2_with fail
      refine HDO.out.mono ?_
      rintro e w2 ⟨⟨v, rfl⟩, ⟨M2, R2, lv2, p2⟩, f2⟩
      have HP2 := hid p2
      have HF2 := hid f2
      clear p2 f2 x0 x1 x2 HDO
      go_wp2
      go_roundw
      case rel => exact ⟨k + 1, by omega, by omega, by go_num, hid ⟨M2, R2, lv2, HP2.out, below_on HB.out HF2.out (fun j h => by omega)⟩⟩
      case measure => simp [intOf]; omega
    · have hlt2 : k = l.length ∨ (k = 200 ∧ 200 < l.length) := by omega
      have HALL := hid (RAll_any wr _ lv m R HP.out.rf (by have := HP.out.len; omega))
      have hMl := HP.out.tl.length
      clear hlt
      rcases hlt2 with rfl | ⟨rfl, hlong⟩
      all_goals
        go_wp2_with fail
        refine HALL.out.mono ?_
        rintro e w2 ⟨v, rfl, hrow2, hb2⟩
        rw [HP.out.eq] at hrow2
        obtain ⟨va, vk, hv⟩ : ∃ a' k', v = .slice a' M.length k' := by
          rcases hrow2.2 with ⟨q1, q2⟩ | ⟨g', cap', _, q1, _⟩
          · exact ⟨none, 0, by rw [q1, q2]⟩
          · exact ⟨_, cap', q1⟩
        subst hv
        have HR2 := hid (Row2.of_owns hrow2)
        have T2 := hid (HP.out.tl.fr (Fr.of_below (fp := fun _ => False) hb2) (fun h => h) (fun h => h))
        have HB2 := hid (HB.out.trans (hb2.mono HB.out.size))
        have hpk := Pick_any st ((M.length : Int) + 1) w2 HST.out (by omega) (by omega)
        have h2 := Int.emod_nonneg st (show (M.length : Int) + 1 ≠ 0 by omega)
        have h3 := Int.emod_lt_of_pos st (show (0 : Int) < (M.length : Int) + 1 by omega)
        obtain ⟨q, hq⟩ : ∃ q : Nat, st % ((M.length : Int) + 1) = q := ⟨(st % ((M.length : Int) + 1)).toNat, by omega⟩
        rw [hq] at hpk
        have hqM : q ≤ M.length := by omega
        have HSL := hid (slice_any hrow2 q hqM)
        have HPK := hid hpk
        clear hrow2 hb2 hpk h2 h3 hq HALL
        go_wp2_with fail
        refine HPK.out.mono ?_
        rintro e w' ⟨rfl, rfl⟩
        go_wp2
        have T3 := hid (T2.out.fr (fp := fun _ => False) (Fr.refl _ w2).drew (fun h => h) (fun h => h))
        have R3 := hid (HR2.out.fr (Fr.refl _ w2).drew)
        have B3 := hid (HB2.out.trans (Below.refl _ w2).drew)
        obtain ⟨w3, hw3⟩ : ∃ w3, w3 = w2.drew := ⟨_, rfl⟩
        rw [← hw3] at T3 R3 B3
        have HW3 := hid hw3
        clear hw3
        refine D.wp_region_mix [0, 2, 0, 2, 0, 0, 0, 2, 0, 0, 0, 2, 0, 0, 2, 0, 0] (fun _ => True) (by kernel_rfl) (by kernel_rfl) trivial ?_
        rw [← HW3.out]
        repeat (first
          | (refine' C.wpMix_value _ rfl rfl _ _; rotate_left; (solve | (intro W; go_simp) | (intro W; go_simp; with_reducible rfl)); simp only [Act.put, List.setIfInBounds_toArray, List.set_cons_zero, List.set_cons_succ]))
        refine C.wpMix_call 13 #[.pointer (some ⟨w.heap.size + 1, 0, none⟩), .int .i64 1000] (by decide) rfl (by go_simp) ?_
        refine (told_any _ _ _ _ M 1000 w3 T3.out (by decide) (by omega)).mono ?_
        rintro e w4 ⟨lv4, rfl, hrow4, hb4⟩
        rw [List.take_of_length_le (show M.length ≤ Int.toNat 1000 by simp; omega)] at hrow4
        have HR4 := hid (Row2.of_owns hrow4)
        have T4 := hid (T3.out.fr (Fr.of_below (fp := fun _ => False) hb4) (fun h => h) (fun h => h))
        have R4 := hid (R3.out.fr (Fr.of_below hb4))
        have B4 := hid (B3.out.trans (hb4.mono B3.out.size))
        clear hrow4 hb4
        refine ⟨_, rfl, fun _ => trivial, ?_⟩
        simp only [Act.put, List.setIfInBounds_toArray, List.set_cons_zero, List.set_cons_succ]
        repeat (first
          | (refine' C.wpMix_value _ rfl rfl _ _; rotate_left; (solve | (intro W; go_simp) | (intro W; go_simp; with_reducible rfl)); simp only [Act.put, List.setIfInBounds_toArray, List.set_cons_zero, List.set_cons_succ]))
        refine C.wpMix_call 12 #[lv4, .slice va M.length vk] (by decide) rfl (by go_simp) ?_
        refine (same_any w4 _ _ M HR4.out R4.out (by omega)).mono ?_
        rintro e w5 ⟨rfl, f5⟩
        have T5 := hid (T4.out.fr f5 (fun h => h) (fun h => h))
        have R5 := hid (R4.out.fr f5)
        have B5 := hid (below_on B4.out f5 (fun j h => h.elim))
        clear f5
        refine ⟨_, rfl, fun _ => trivial, ?_⟩
        simp only [Act.put, List.setIfInBounds_toArray, List.set_cons_zero, List.set_cons_succ]
        repeat (first
          | (refine' C.wpMix_value _ rfl rfl _ _; rotate_left; (solve | (intro W; go_simp) | (intro W; go_simp; with_reducible rfl)); simp only [Act.put, List.setIfInBounds_toArray, List.set_cons_zero, List.set_cons_succ]))
        refine C.wpMix_call 13 #[.pointer (some ⟨w.heap.size + 1, 0, none⟩), .int .i64 q] (by decide) rfl (by go_simp) ?_
        refine (told_any _ _ _ _ M q w5 T5.out (by omega) (by omega)).mono ?_
        rintro e w6 ⟨lv6, rfl, hrow6, hb6⟩
        rw [show Int.toNat (q : Int) = q from by omega] at hrow6
        have HR6 := hid (Row2.of_owns hrow6)
        have R6 := hid ((R5.out.take q hqM).fr (Fr.of_below hb6))
        have B6 := hid (B5.out.trans (hb6.mono B5.out.size))
        clear hrow6 hb6
        refine ⟨_, rfl, fun _ => trivial, ?_⟩
        simp only [Act.put, List.setIfInBounds_toArray, List.set_cons_zero, List.set_cons_succ]
        have hsl := HSL.out
        repeat (first
          | (refine' C.wpMix_value _ rfl rfl _ _; rotate_left; (solve | (intro W; go_simp) | (intro W; go_simp; with_reducible rfl)); simp only [Act.put, List.setIfInBounds_toArray, List.set_cons_zero, List.set_cons_succ]))
        clear hsl
        refine C.wpMix_call 12 #[lv6, .slice va q vk] (by decide) rfl (by go_simp) ?_
        refine (same_any w6 _ _ (M.take q) HR6.out R6.out (by simp; omega)).mono ?_
        rintro e w7 ⟨rfl, f7⟩
        have B7 := hid (below_on B6.out f7 (fun j h => h.elim))
        clear f7
        refine ⟨_, rfl, fun _ => trivial, ?_⟩
        simp only [Act.put, List.setIfInBounds_toArray, List.set_cons_zero, List.set_cons_succ]
        repeat (first
          | (refine' C.wpMix_value _ rfl rfl _ _; rotate_left; (solve | (intro W; go_simp) | (intro W; go_simp; with_reducible rfl)); simp only [Act.put, List.setIfInBounds_toArray, List.set_cons_zero, List.set_cons_succ]))
        refine C.wpMix_call 14 #[] (by decide) rfl (by go_simp) ?_
        refine (awake_any w7).mono ?_
        rintro e w8 ⟨rfl, hb8⟩
        have B8 := hid (B7.out.trans (hb8.mono B7.out.size))
        clear hb8
        refine ⟨_, rfl, fun _ => trivial, ?_⟩
        simp only [Act.put, List.setIfInBounds_toArray, List.set_cons_zero, List.set_cons_succ]
        repeat (first
          | (refine' C.wpMix_value _ rfl rfl _ _; rotate_left; (solve | (intro W; go_simp) | (intro W; go_simp; with_reducible rfl)); simp only [Act.put, List.setIfInBounds_toArray, List.set_cons_zero, List.set_cons_succ]))
        refine C.wpMix_end ?_
        go_wp2
        go_ret
        exact ⟨rfl, B8.out⟩
end Go.Proofs.Ytmmmjkmhlkkdkaa
