/-
  FacesCommon's walk.
-/
import Derived.Test.YtpcgplcpfbgcfaaFcLw
namespace Go.Proofs.Ytpcgplcpfbgcfaa
open Go Go.ChangeShapes Go.WideShapes Go.ChangeAt Go.RowKit

theorem Pick_ok (x : Int) (N : Nat) (w : World) (h : -9223372036854775808 ≤ x ∧ x ≤ 9223372036854775807) (hN : N ≤ 100000) : ∃ v : Int, (0 ≤ v ∧ v < max (N : Int) 1) ∧ Calls Try.prog 14 #[.int .i64 x, .int .i64 (N : Int)] w fun e w' => e = .returned (.int .i64 v) ∧ w = w' := by
  by_cases h1 : N < 1
  · exact ⟨0, by omega, Pick_low x N w (by omega)⟩
  · refine ⟨x % (N : Int), ?_, Pick_any x N w h (by omega) (by omega)⟩
    have := Int.emod_nonneg x (b := (N : Int)) (by omega)
    have := Int.emod_lt_of_pos x (b := (N : Int)) (by omega)
    omega
set_option maxHeartbeats 2000000 in
set_option maxRecDepth 100000 in
theorem Commons_any (w : World) (ad : Option Addr) (cap N : Nat) (l : List Face) (i j : Int) (near : Bool) (hF : FRow w w.heap.size ad l) (hi : -9223372036854775808 ≤ i ∧ i ≤ 9223372036854775807) (hj : -9223372036854775808 ≤ j ∧ j ≤ 9223372036854775807) (hN : N = l.length) :
    Calls Try.prog 6 #[.slice ad N cap, .int .i64 i, .int .i64 j, .bool near] w fun e w' => e = .returned (.bool true) ∧ Below w.heap.size w w' := by
  have HN := hid hN
  by_cases hgr : 60 < N
  · have hd : decide ((60 : Int) < N) = true := by simp; omega
    clear hgr hF hN hi hj
    go_enter Try.func6, Try.ntmps6
    go_wp2_with (first | (go_at_call 9; refine (great_any _ _ _ _).mono ?_; rintro e w' ⟨rfl, rfl⟩) | fail)
    refine (awake_any _).mono ?_
    rintro e w3 ⟨rfl, hb3⟩
    have HB3 := hid hb3
    clear hb3
    go_wp2
    go_ret
    exact ⟨rfl, HB3.out⟩
  · have hd : decide ((60 : Int) < N) = false := by simp; omega
    have hn60 : N ≤ 60 := by omega
    have HF := hid hF
    clear hgr hF hN
    cases near with
    | false =>
      clear hi hj
      go_enter Try.func6, Try.ntmps6
      go_wp2_with (first | (go_at_call 9; refine (great_any _ _ _ _).mono ?_; rintro e w' ⟨rfl, rfl⟩) | fail)
      refine (Common_any _ ad N cap l i j HF.out HN.out).mono ?_
      rintro e w2 ⟨rfl, hb2⟩
      have HF2 := hid (HF.out.on hb2)
      have HB2 := hid hb2
      clear hb2 HF
      go_wp2_with fail
      refine (RCommon_any _ ad N cap l i j HF2.out HN.out (by omega)).mono ?_
      rintro e w3 ⟨rfl, hb3⟩
      have HF3 := hid (HF2.out.on hb3)
      have HB3 := hid (HB2.out.trans (hb3.mono HB2.out.size))
      clear hb3 HF2 HB2
      cases hfd : commonL l i j with
      | some y =>
        have e1 : rcV (some y) = (y : Int) := rfl
        have e2 : cmV (some y) = (y : Int) := rfl
        have e3 : cmE (some y) = 0 := rfl
        have d1 : decide ((y : Int) < 0) = false := by simp
        have d2 : decide (0 ≤ (y : Int)) = true := by simp
        rw [e1, e2, e3]
        clear e1 e2 e3 hfd
        go_wp2_with fail
        refine (Is_any _ ad N cap l i j HF3.out HN.out).mono ?_
        rintro e w4 ⟨rfl, hb4⟩
        have HF4 := hid (HF3.out.on hb4)
        have HB4 := hid (HB3.out.trans (hb4.mono HB3.out.size))
        clear hb4 HF3 HB3
        go_wp2_with fail
        refine (RIs_any _ ad N cap l i j HF4.out HN.out (by omega)).mono ?_
        rintro e w5 ⟨rfl, hb5⟩
        have HB5 := hid (HB4.out.trans (hb5.mono HB4.out.size))
        clear hb5 HF4 HB4
        go_wp2_with fail
        refine (awake_any _).mono ?_
        rintro e w6 ⟨rfl, hb6⟩
        have HB6 := hid (HB5.out.trans (hb6.mono HB5.out.size))
        clear hb6 HB5
        go_wp2
        go_ret
        exact ⟨rfl, HB6.out⟩
      | none =>
        have e1 : rcV none = -1 := rfl
        have e2 : cmV none = 0 := rfl
        have e3 : cmE none = 7 := rfl
        rw [e1, e2, e3]
        clear e1 e2 e3 hfd
        go_wp2_with fail
        refine (Is_any _ ad N cap l i j HF3.out HN.out).mono ?_
        rintro e w4 ⟨rfl, hb4⟩
        have HF4 := hid (HF3.out.on hb4)
        have HB4 := hid (HB3.out.trans (hb4.mono HB3.out.size))
        clear hb4 HF3 HB3
        go_wp2_with fail
        refine (RIs_any _ ad N cap l i j HF4.out HN.out (by omega)).mono ?_
        rintro e w5 ⟨rfl, hb5⟩
        have HB5 := hid (HB4.out.trans (hb5.mono HB4.out.size))
        clear hb5 HF4 HB4
        go_wp2_with fail
        refine (awake_any _).mono ?_
        rintro e w6 ⟨rfl, hb6⟩
        have HB6 := hid (HB5.out.trans (hb6.mono HB5.out.size))
        clear hb6 HB5
        go_wp2
        go_ret
        exact ⟨rfl, HB6.out⟩
    | true =>
      obtain ⟨i', hi1, hp1⟩ := Pick_ok i N w hi (by omega)
      obtain ⟨j', hj1, hp2⟩ := Pick_ok j N w hj (by omega)
      have HP1 := hid hp1
      have HP2 := hid hp2
      clear hi hj hi1 hj1 hp1 hp2
      go_enter Try.func6, Try.ntmps6
      go_wp2_with (first | (go_at_call 9; refine (great_any _ _ _ _).mono ?_; rintro e w' ⟨rfl, rfl⟩) | fail)
      refine HP1.out.mono ?_
      rintro e w' ⟨rfl, rfl⟩
      go_wp2_with fail
      refine HP2.out.mono ?_
      rintro e w' ⟨rfl, rfl⟩
      go_wp2_with fail
      refine (Common_any _ ad N cap l i' j' HF.out HN.out).mono ?_
      rintro e w2 ⟨rfl, hb2⟩
      have HF2 := hid (HF.out.on hb2)
      have HB2 := hid hb2
      clear hb2 HF
      go_wp2_with fail
      refine (RCommon_any _ ad N cap l i' j' HF2.out HN.out (by omega)).mono ?_
      rintro e w3 ⟨rfl, hb3⟩
      have HF3 := hid (HF2.out.on hb3)
      have HB3 := hid (HB2.out.trans (hb3.mono HB2.out.size))
      clear hb3 HF2 HB2
      cases hfd : commonL l i' j' with
      | some y =>
        have e1 : rcV (some y) = (y : Int) := rfl
        have e2 : cmV (some y) = (y : Int) := rfl
        have e3 : cmE (some y) = 0 := rfl
        have d1 : decide ((y : Int) < 0) = false := by simp
        have d2 : decide (0 ≤ (y : Int)) = true := by simp
        rw [e1, e2, e3]
        clear e1 e2 e3 hfd
        go_wp2_with fail
        refine (Is_any _ ad N cap l i' j' HF3.out HN.out).mono ?_
        rintro e w4 ⟨rfl, hb4⟩
        have HF4 := hid (HF3.out.on hb4)
        have HB4 := hid (HB3.out.trans (hb4.mono HB3.out.size))
        clear hb4 HF3 HB3
        go_wp2_with fail
        refine (RIs_any _ ad N cap l i' j' HF4.out HN.out (by omega)).mono ?_
        rintro e w5 ⟨rfl, hb5⟩
        have HB5 := hid (HB4.out.trans (hb5.mono HB4.out.size))
        clear hb5 HF4 HB4
        go_wp2_with fail
        refine (awake_any _).mono ?_
        rintro e w6 ⟨rfl, hb6⟩
        have HB6 := hid (HB5.out.trans (hb6.mono HB5.out.size))
        clear hb6 HB5
        go_wp2
        go_ret
        exact ⟨rfl, HB6.out⟩
      | none =>
        have e1 : rcV none = -1 := rfl
        have e2 : cmV none = 0 := rfl
        have e3 : cmE none = 7 := rfl
        rw [e1, e2, e3]
        clear e1 e2 e3 hfd
        go_wp2_with fail
        refine (Is_any _ ad N cap l i' j' HF3.out HN.out).mono ?_
        rintro e w4 ⟨rfl, hb4⟩
        have HF4 := hid (HF3.out.on hb4)
        have HB4 := hid (HB3.out.trans (hb4.mono HB3.out.size))
        clear hb4 HF3 HB3
        go_wp2_with fail
        refine (RIs_any _ ad N cap l i' j' HF4.out HN.out (by omega)).mono ?_
        rintro e w5 ⟨rfl, hb5⟩
        have HB5 := hid (HB4.out.trans (hb5.mono HB4.out.size))
        clear hb5 HF4 HB4
        go_wp2_with fail
        refine (awake_any _).mono ?_
        rintro e w6 ⟨rfl, hb6⟩
        have HB6 := hid (HB5.out.trans (hb6.mono HB5.out.size))
        clear hb6 HB5
        go_wp2
        go_ret
        exact ⟨rfl, HB6.out⟩
end Go.Proofs.Ytpcgplcpfbgcfaa
