/-
  FacesLines' walk.
-/
import Derived.Test.YtpcgplcpfbgcfaaFcLc
namespace Go.Proofs.Ytpcgplcpfbgcfaa
open Go Go.ChangeShapes Go.WideShapes Go.ChangeAt Go.RowKit

theorem own_cap {w : World} {B : Nat} {e : TypeId} {k n c : Nat} {a : Option Addr} {xs : List Value} (h : w.ownsRow B e k (.slice a n c) n xs) : n ≤ c := by
  rcases h.2 with ⟨q1, q2⟩ | ⟨g, cap', _, q1, _, _, q2, _⟩
  · omega
  · cases q1; exact q2
theorem own_capmax {w : World} {B : Nat} {e : TypeId} {k n c : Nat} {a : Option Addr} {xs : List Value} (h : w.ownsRow B e k (.slice a n c) n xs) : c ≤ 9223372036854775807 := by
  rcases h.2 with ⟨q1, q2⟩ | ⟨g, cap', _, q1, _, _, q2, q3, _⟩
  · cases q1; omega
  · cases q1
    have : maxLen = 9223372036854775807 := rfl
    omega
theorem Lies.take {w : World} {a : Option Addr} {L : List Nat} (h : Lies w a L) (n : Nat) : Lies w a (L.take n) := fun q k hq => by
  refine h q k ?_
  rw [List.getElem?_take] at hq
  split at hq
  · exact hq
  · cases hq
theorem Pick_in (x : Int) (m : Nat) (w : World) (h : -9223372036854775808 ≤ x ∧ x ≤ 9223372036854775807) (hm : m ≤ 100000) : ∃ v : Nat, v ≤ m ∧ Calls Try.prog 14 #[.int .i64 x, .int .i64 ((m : Int) + 1)] w fun e w' => e = .returned (.int .i64 (v : Int)) ∧ w = w' := by
  have h1 := Int.emod_nonneg x (b := (m : Int) + 1) (by omega)
  have h2 := Int.emod_lt_of_pos x (b := (m : Int) + 1) (by omega)
  refine ⟨(x % ((m : Int) + 1)).toNat, by omega, ?_⟩
  have := Pick_any x ((m : Int) + 1) w h (by omega) (by omega)
  rw [Int.toNat_of_nonneg h1]
  exact this
set_option maxHeartbeats 2000000 in
set_option maxRecDepth 100000 in
theorem Lines_any (w : World) (ad : Option Addr) (cap N : Nat) (l : List Face) (i stop : Int) (hF : FRow w w.heap.size ad l) (hi : -9223372036854775808 ≤ i ∧ i ≤ 9223372036854775807) (hs : -9223372036854775808 ≤ stop ∧ stop ≤ 9223372036854775807) (hN : N = l.length) :
    Calls Try.prog 4 #[.slice ad N cap, .int .i64 i, .int .i64 stop] w fun e w' => e = .returned (.bool true) ∧ Below w.heap.size w w' := by
  have HN := hid hN
  by_cases hgr : 60 < N
  · have hd : decide ((60 : Int) < N) = true := by simp; omega
    clear hgr hF hN hi hs
    go_enter Try.func4, Try.ntmps4
    go_wp2_with (first | (go_at_call 9; refine (great_any _ _ _ _).mono ?_; rintro e w' ⟨rfl, rfl⟩) | fail)
    refine (awake_any _).mono ?_
    rintro e w3 ⟨rfl, hb3⟩
    have HB3 := hid hb3
    clear hb3
    go_wp2
    go_ret
    exact ⟨rfl, HB3.out⟩
  · have hd : decide ((60 : Int) < N) = false := by simp; omega
    have hn60 : N ≤ 60 := by omega
    have HF := hid hF
    have HP1 := hid (fun (W : World) => by
      exact Pick_ok i N W hi (by omega))
    clear hgr hF hN
    go_enter Try.func4, Try.ntmps4
    go_wp2_with (first | (go_at_call 9; refine (great_any _ _ _ _).mono ?_; rintro e w' ⟨rfl, rfl⟩) | fail)
    refine (RLine_any _ ad N cap l i HF.out HN.out (by omega)).mono ?_
    rintro e w2 ⟨lv, rfl, hrow, hb2⟩
    obtain ⟨wa, wk, rfl⟩ := own_form hrow
    have hwc := own_cap hrow
    have hwm := own_capmax hrow
    have hlen := lineL_len l i
    have HL2 := hid (lies_of_owns hrow)
    have HF2 := hid (HF.out.on hb2)
    have HB2 := hid hb2
    obtain ⟨m, hm⟩ : ∃ m, m = (lineL l i).length := ⟨_, rfl⟩
    have hm60 : m ≤ 60 := by have := HN.out; omega
    rw [← hm] at hwc ⊢
    have HM := hid hm
    obtain ⟨nr, _, hp1⟩ := HP1.out w2
    have HPa := hid hp1
    obtain ⟨k, hk, hp2⟩ := Pick_in stop m w2 hs (by omega)
    have HPb := hid hp2
    clear hrow hb2 hlen hm hp1 hp2 HP1 hi hs HF
    go_wp2_with fail
    refine HPa.out.mono ?_
    rintro e w' ⟨rfl, rfl⟩
    go_wp2_with fail
    refine HPb.out.mono ?_
    rintro e w' ⟨rfl, rfl⟩
    go_wp2
    have hkw : k ≤ wk := by omega
    have HFd := hid (show FRow w2.drew w2.drew.heap.size ad l from HF2.out.on (Below.refl _ w2).drew)
    have HBd := hid (show Below w.heap.size w w2.drew from HB2.out.drew)
    have HLd := hid (show Lies w2.drew wa (lineL l i) from HL2.out.below (Below.refl _ w2).drew)
    obtain ⟨w3, hw3⟩ : ∃ w3, w3 = w2.drew := ⟨_, rfl⟩
    rw [← hw3] at HFd HBd HLd
    have e99 : (lineL l i).take (99 : Int).toNat = lineL l i := List.take_of_length_le (by have := HM.out; show _ ≤ 99; omega)
    have ek : ((k : Int)).toNat = k := rfl
    have E99 := hid e99
    have E99n := hid (show (lineL l nr).take (99 : Int).toNat = lineL l nr from List.take_of_length_le (by have := lineL_len l nr; have := HN.out; show _ ≤ 99; omega))
    have hkl := hid (show ((lineL l i).take k).length = k from by have := HM.out; simp; omega)
    clear e99 ek HPa HPb HL2 HF2 HB2
    refine D.wp_region_mix [0, 0, 3, 0, 3, 0, 0, 0, 0, 3, 0, 0, 0, 3, 0, 0, 0, 0, 3, 0, 0, 3, 3, 0, 0, 3, 0, 0] (fun _ => True) (by kernel_rfl) (by kernel_rfl) trivial ?_
    rw [← hw3]
    clear hw3
    repeat (first
      | (refine' C.wpMix_value _ rfl rfl _ _; rotate_left; (solve | (intro W; go_simp) | (intro W; go_simp; with_reducible rfl)); simp only [Act.put, List.setIfInBounds_toArray, List.set_cons_zero, List.set_cons_succ]))
    refine C.wpMix_call 16 #[.slice ad N cap, .int .i64 i, .int .i64 99] (by decide) rfl (by go_simp) ?_
    refine (told_any w3 ad N cap l i 99 HFd.out HN.out (by omega) (by decide) (by decide)).mono ?_
    rintro e w4 ⟨lv, rfl, hrow, hb4⟩
    rw [E99.out] at hrow
    obtain ⟨a4, k4, rfl⟩ := own_form hrow
    have HL4 := hid (lies_of_owns hrow)
    have HLw4 := hid (HLd.out.below hb4)
    have HF4 := hid (HFd.out.on hb4)
    have HB4 := hid (HBd.out.trans (hb4.mono HBd.out.size))
    have em4 : (lineL l i).length = m := HM.out.symm
    rw [em4]
    clear hrow hb4 em4
    refine ⟨_, rfl, (fun h => by cases h), ?_⟩
    simp only [Act.put, List.setIfInBounds_toArray, List.set_cons_zero, List.set_cons_succ]
    repeat (first
      | (refine' C.wpMix_value _ rfl rfl _ _; rotate_left; (solve | (intro W; go_simp) | (intro W; go_simp; with_reducible rfl)); simp only [Act.put, List.setIfInBounds_toArray, List.set_cons_zero, List.set_cons_succ]))
    refine C.wpMix_call 15 #[.slice a4 m k4, .slice wa m wk] (by decide) rfl (by go_simp) ?_
    refine (Same_any w4 a4 wa k4 wk m (lineL l i) HM.out (by omega) HL4.out HLw4.out).mono ?_
    rintro e w5 ⟨rfl, hb5⟩
    have HLw5 := hid (HLw4.out.below hb5)
    have HF5 := hid (HF4.out.on hb5)
    have HB5 := hid (HB4.out.trans (hb5.mono HB4.out.size))
    clear hb5
    refine ⟨_, rfl, (fun h => by cases h), ?_⟩
    simp only [Act.put, List.setIfInBounds_toArray, List.set_cons_zero, List.set_cons_succ]
    repeat (first
      | (refine' C.wpMix_value _ rfl rfl _ _; rotate_left; (solve | (intro W; go_simp) | (intro W; go_simp; with_reducible rfl)); simp only [Act.put, List.setIfInBounds_toArray, List.set_cons_zero, List.set_cons_succ]))
    refine C.wpMix_call 16 #[.slice ad N cap, .int .i64 i, .int .i64 (k : Int)] (by decide) rfl (by go_simp) ?_
    refine (told_any w5 ad N cap l i (k : Int) HF5.out HN.out (by omega) (by omega) (by omega)).mono ?_
    rintro e w6 ⟨lv, rfl, hrow, hb6⟩
    have ekk : ((k : Int)).toNat = k := rfl
    rw [ekk] at hrow
    obtain ⟨a6, k6, rfl⟩ := own_form hrow
    have HL6 := hid (lies_of_owns hrow)
    have HLw6 := hid (HLw5.out.below hb6)
    have HF6 := hid (HF5.out.on hb6)
    have HB6 := hid (HB5.out.trans (hb6.mono HB5.out.size))
    rw [hkl.out]
    clear hrow hb6 ekk
    refine ⟨_, rfl, (fun h => by cases h), ?_⟩
    simp only [Act.put, List.setIfInBounds_toArray, List.set_cons_zero, List.set_cons_succ]
    repeat (first
      | (refine' C.wpMix_value _ rfl rfl _ _; rotate_left; (solve | (intro W; go_simp) | (intro W; go_simp; with_reducible rfl)); simp only [Act.put, List.setIfInBounds_toArray, List.set_cons_zero, List.set_cons_succ]))
    refine C.wpMix_call 15 #[.slice a6 k k6, .slice wa k wk] (by decide) rfl (by go_simp) ?_
    refine (Same_any w6 a6 wa k6 wk k ((lineL l i).take k) hkl.out.symm (by omega) HL6.out (HLw6.out.take k)).mono ?_
    rintro e w7 ⟨rfl, hb7⟩
    have HF7 := hid (HF6.out.on hb7)
    have HB7 := hid (HB6.out.trans (hb7.mono HB6.out.size))
    clear hb7
    refine ⟨_, rfl, (fun h => by cases h), ?_⟩
    simp only [Act.put, List.setIfInBounds_toArray, List.set_cons_zero, List.set_cons_succ]
    repeat (first
      | (refine' C.wpMix_value _ rfl rfl _ _; rotate_left; (solve | (intro W; go_simp) | (intro W; go_simp; with_reducible rfl)); simp only [Act.put, List.setIfInBounds_toArray, List.set_cons_zero, List.set_cons_succ]))
    refine C.wpMix_call 16 #[.slice ad N cap, .int .i64 nr, .int .i64 99] (by decide) rfl (by go_simp) ?_
    refine (told_any w7 ad N cap l nr 99 HF7.out HN.out (by omega) (by decide) (by decide)).mono ?_
    rintro e w8 ⟨lv, rfl, hrow, hb8⟩
    rw [E99n.out] at hrow
    obtain ⟨a8, k8, rfl⟩ := own_form hrow
    have HL8 := hid (lies_of_owns hrow)
    have HF8 := hid (HF7.out.on hb8)
    have HB8 := hid (HB7.out.trans (hb8.mono HB7.out.size))
    obtain ⟨p, hp⟩ : ∃ p, p = (lineL l nr).length := ⟨_, rfl⟩
    have HPL := hid hp
    have hp60 : p ≤ 60 := by have := lineL_len l nr; have := HN.out; omega
    rw [← hp]
    clear hrow hb8 hp
    refine ⟨_, rfl, (fun h => by cases h), ?_⟩
    simp only [Act.put, List.setIfInBounds_toArray, List.set_cons_zero, List.set_cons_succ]
    repeat (first
      | (refine' C.wpMix_value _ rfl rfl _ _; rotate_left; (solve | (intro W; go_simp) | (intro W; go_simp; with_reducible rfl)); simp only [Act.put, List.setIfInBounds_toArray, List.set_cons_zero, List.set_cons_succ]))
    refine C.wpMix_call 13 #[.slice ad N cap, .int .i64 nr] (by decide) rfl (by go_simp) ?_
    refine (RLine_any w8 ad N cap l nr HF8.out HN.out (by omega)).mono ?_
    rintro e w9 ⟨lv, rfl, hrow, hb9⟩
    obtain ⟨a9, k9, rfl⟩ := own_form hrow
    have HL9 := hid (lies_of_owns hrow)
    have HL89 := hid (HL8.out.below hb9)
    have HB9 := hid (HB8.out.trans (hb9.mono HB8.out.size))
    rw [← HPL.out]
    clear hrow hb9
    refine ⟨_, rfl, (fun h => by cases h), ?_⟩
    simp only [Act.put, List.setIfInBounds_toArray, List.set_cons_zero, List.set_cons_succ]
    repeat (first
      | (refine' C.wpMix_value _ rfl rfl _ _; rotate_left; (solve | (intro W; go_simp) | (intro W; go_simp; with_reducible rfl)); simp only [Act.put, List.setIfInBounds_toArray, List.set_cons_zero, List.set_cons_succ]))
    refine C.wpMix_call 15 #[.slice a8 p k8, .slice a9 p k9] (by decide) rfl (by go_simp) ?_
    refine (Same_any w9 a8 a9 k8 k9 p (lineL l nr) HPL.out (by omega) HL89.out HL9.out).mono ?_
    rintro e w10 ⟨rfl, hb10⟩
    have HB10 := hid (HB9.out.trans (hb10.mono HB9.out.size))
    clear hb10
    refine ⟨_, rfl, (fun h => by cases h), ?_⟩
    simp only [Act.put, List.setIfInBounds_toArray, List.set_cons_zero, List.set_cons_succ]
    repeat (first
      | (refine' C.wpMix_value _ rfl rfl _ _; rotate_left; (solve | (intro W; go_simp) | (intro W; go_simp; with_reducible rfl)); simp only [Act.put, List.setIfInBounds_toArray, List.set_cons_zero, List.set_cons_succ]))
    refine C.wpMix_call 10 #[] (by decide) rfl (by go_simp) ?_
    refine (awake_any w10).mono ?_
    rintro e w11 ⟨rfl, hb11⟩
    have HB11 := hid (HB10.out.trans (hb11.mono HB10.out.size))
    clear hb11
    refine ⟨_, rfl, (fun h => by cases h), ?_⟩
    simp only [Act.put, List.setIfInBounds_toArray, List.set_cons_zero, List.set_cons_succ]
    repeat (first
      | (refine' C.wpMix_value _ rfl rfl _ _; rotate_left; (solve | (intro W; go_simp) | (intro W; go_simp; with_reducible rfl)); simp only [Act.put, List.setIfInBounds_toArray, List.set_cons_zero, List.set_cons_succ]))
    refine C.wpMix_end ?_
    go_wp2
    go_ret
    exact ⟨rfl, HB11.out⟩
end Go.Proofs.Ytpcgplcpfbgcfaa
