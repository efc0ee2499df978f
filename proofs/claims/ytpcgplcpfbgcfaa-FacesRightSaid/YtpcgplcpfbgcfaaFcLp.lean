/-
  FacesPrefix' walk.
-/
import Derived.Test.YtpcgplcpfbgcfaaFcLl
import Derived.Test.YtpcgplcpfbgcfaaFcN
namespace Go.Proofs.Ytpcgplcpfbgcfaa
open Go Go.ChangeShapes Go.WideShapes Go.ChangeAt Go.RowKit

theorem Pick_nat (x : Int) (m : Nat) (w : World) (h : -9223372036854775808 ≤ x ∧ x ≤ 9223372036854775807) (h1 : 1 ≤ m) (hm : m ≤ 100000) : ∃ v : Nat, v < m ∧ Calls Try.prog 14 #[.int .i64 x, .int .i64 (m : Int)] w fun e w' => e = .returned (.int .i64 (v : Int)) ∧ w = w' := by
  have h2 := Int.emod_nonneg x (b := (m : Int)) (by omega)
  have h3 := Int.emod_lt_of_pos x (b := (m : Int)) (by omega)
  refine ⟨(x % (m : Int)).toNat, by omega, ?_⟩
  have := Pick_any x (m : Int) w h (by omega) (by omega)
  rw [Int.toNat_of_nonneg h2]
  exact this
set_option maxHeartbeats 2000000 in
set_option maxRecDepth 100000 in
theorem Prefixes_any (w : World) (ad : Option Addr) (cap N : Nat) (l : List Face) (cut i : Int) (hF : FRow w w.heap.size ad l) (hc : -9223372036854775808 ≤ cut ∧ cut ≤ 9223372036854775807) (hi : -9223372036854775808 ≤ i ∧ i ≤ 9223372036854775807) (hN : N = l.length) (hcap : N ≤ cap) (hcap2 : cap ≤ 9223372036854775807) :
    Calls Try.prog 8 #[.slice ad N cap, .int .i64 cut, .int .i64 i] w fun e w' => e = .returned (.bool true) ∧ Below w.heap.size w w' := by
  have HN := hid hN
  by_cases hgr : 60 < N
  · have hd : decide ((60 : Int) < N) = true := by simp; omega
    clear hgr hF hN hi hc
    go_enter Try.func8, Try.ntmps8
    go_wp2_with (first | (go_at_call 9; refine (great_any _ _ _ _).mono ?_; rintro e w' ⟨rfl, rfl⟩) | fail)
    refine (awake_any _).mono ?_
    rintro e w3 ⟨rfl, hb3⟩
    have HB3 := hid hb3
    clear hb3
    go_wp2
    go_ret
    exact ⟨rfl, HB3.out⟩
  · have hd : decide ((60 : Int) < N) = false := by simp; omega
    have hn60 : N ≤ 60 := by omega
    have HF := hid hF
    have HCK := hid (Check_any w ad N cap l hF hN (by omega) hcap hcap2)
    have HCP := hid hcap2
    clear hcap2
    by_cases hck : checkL l = 0
    · have hr := right_of hck
      have hlo : 1 ≤ N := by have := hr.lo; omega
      have HR := hid hr
      have HCC := hid hck
      have HP1 := hid (fun (W : World) => Pick_nat cut N W hc hlo (by omega))
      have HIN := hid hi
      clear hgr hF hN hi hc hck hr
      go_enter Try.func8, Try.ntmps8
      go_wp2_with (first | (go_at_call 9; refine (great_any _ _ _ _).mono ?_; rintro e w' ⟨rfl, rfl⟩) | fail)
      refine HCK.out.mono ?_
      rintro e w2 ⟨rfl, hb2⟩
      rw [HCC.out]
      have HF2 := hid (HF.out.on hb2)
      have HB2 := hid hb2
      obtain ⟨v, hv, hp1⟩ := HP1.out w2
      have HPa := hid hp1
      clear hb2 hp1 HP1 HCK HF
      go_wp2_with fail
      refine HPa.out.mono ?_
      rintro e w' ⟨rfl, rfl⟩
      have hw1 : IntKind.i64.wrap (1 + (v : Int)) = ((v + 1 : Nat) : Int) := by
        rw [IntWalk.i64_in _ (by omega)]; omega
      obtain ⟨y, hy, hp2⟩ := Pick_in i v w2 HIN.out (by omega)
      have HPb := hid hp2
      clear hp2
      go_wp2_with fail
      refine HPb.out.mono ?_
      rintro e w' ⟨rfl, rfl⟩
      have hvc : v + 1 ≤ cap := by omega
      go_wp2_with fail
      have hvl : v + 1 = (l.take (v + 1)).length := by have := HN.out; simp; omega
      have HVL := hid hvl
      have hrt : checkL (l.take (v + 1)) = 0 := (HR.out.take (by omega) (by have := HN.out; omega)).check
      have HRT := hid hrt
      have hlt := hid (lineL_take (l := l) (n := v + 1) (i := (y : Int)) (by have := HN.out; omega) (by omega))
      have e99 := hid (show (lineL l (y : Int)).take (99 : Int).toNat = lineL l (y : Int) from List.take_of_length_le (by have := lineL_len l (y : Int); have := HN.out; show _ ≤ 99; omega))
      have HF2t := hid (HF2.out.take (v + 1))
      clear hvl hrt
      refine (Check_any w2 ad (v + 1) cap (l.take (v + 1)) HF2t.out HVL.out (by omega) hvc HCP.out).mono ?_
      rintro e w3 ⟨rfl, hb3⟩
      rw [HRT.out]
      have HF3 := hid (HF2.out.on hb3)
      have HF3t := hid (HF2t.out.on hb3)
      have HB3 := hid (HB2.out.trans (hb3.mono HB2.out.size))
      clear hb3 HF2 HF2t HB2 HPa HPb hw1
      go_wp2_with fail
      refine (told_any w3 ad (v + 1) cap (l.take (v + 1)) (y : Int) 99 HF3t.out HVL.out (by omega) (by decide) (by decide)).mono ?_
      rintro e w4 ⟨lv, rfl, hrow, hb4⟩
      rw [hlt.out, e99.out] at hrow
      obtain ⟨a4, k4, rfl⟩ := own_form hrow
      have HL4 := hid (lies_of_owns hrow)
      have HF4 := hid (HF3.out.on hb4)
      have HB4 := hid (HB3.out.trans (hb4.mono HB3.out.size))
      obtain ⟨m, hm⟩ : ∃ m, m = (lineL l (y : Int)).length := ⟨_, rfl⟩
      have hm60 : m ≤ 60 := by have := lineL_len l (y : Int); have := HN.out; omega
      have HM := hid hm
      rw [← hm]
      clear hrow hb4 HF3 HF3t HB3 hm
      go_wp2_with fail
      refine (told_any w4 ad N cap l (y : Int) 99 HF4.out HN.out (by omega) (by decide) (by decide)).mono ?_
      rintro e w5 ⟨lv, rfl, hrow, hb5⟩
      rw [e99.out] at hrow
      obtain ⟨a5, k5, rfl⟩ := own_form hrow
      have HL5 := hid (lies_of_owns hrow)
      have HL45 := hid (HL4.out.below hb5)
      have HB5 := hid (HB4.out.trans (hb5.mono HB4.out.size))
      rw [← HM.out]
      clear hrow hb5 HF4 HB4
      go_wp2_with fail
      refine (Same_any w5 a4 a5 k4 k5 m (lineL l (y : Int)) HM.out (by omega) HL45.out HL5.out).mono ?_
      rintro e w6 ⟨rfl, hb6⟩
      have HB6 := hid (HB5.out.trans (hb6.mono HB5.out.size))
      clear hb6
      go_wp2_with fail
      refine (awake_any _).mono ?_
      rintro e w7 ⟨rfl, hb7⟩
      have HB7 := hid (HB6.out.trans (hb7.mono HB6.out.size))
      clear hb7
      go_wp2
      go_ret
      exact ⟨rfl, HB7.out⟩
    · have hne : (checkL l != 0) = true := by simpa using hck
      obtain ⟨c, hcc⟩ : ∃ c, c = checkL l := ⟨_, rfl⟩
      rw [← hcc] at hne
      have HCC := hid hcc
      clear hgr hF hN hi hc hck hcc
      go_enter Try.func8, Try.ntmps8
      go_wp2_with (first | (go_at_call 9; refine (great_any _ _ _ _).mono ?_; rintro e w' ⟨rfl, rfl⟩) | fail)
      refine HCK.out.mono ?_
      rintro e w2 ⟨rfl, hb2⟩
      rw [← HCC.out]
      have HB2 := hid hb2
      clear hb2 HCK HF
      go_wp2_with fail
      refine (awake_any _).mono ?_
      rintro e w3 ⟨rfl, hb3⟩
      have HB3 := hid hb3
      clear hb3
      go_wp2
      go_ret
      exact ⟨rfl, HB2.out.trans (HB3.out.mono HB2.out.size)⟩
end Go.Proofs.Ytpcgplcpfbgcfaa
