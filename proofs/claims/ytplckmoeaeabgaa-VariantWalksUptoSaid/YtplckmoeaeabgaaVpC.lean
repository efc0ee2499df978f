/-
  The contracts of the program's checks of one value.
-/
import Derived.Test.YtplckmoeaeabgaaVrC
namespace Go.Proofs.Ytplckmoeaeabgaa
open Go Go.ChangeShapes Go.WideShapes Go.ChangeAt Go.RowKit

/-- Which numbers a kind may have. -/
def nmb (k n : Int) : Bool := if k = 0 ∨ k = 4 ∨ k = 6 then decide (n = 0) else if k = 1 then decide (n = 0) || decide (n = 1) else if k = 2 then decide (-2147483648 ≤ n) && decide (n ≤ 2147483647) else decide (k = 3 ∨ k = 5)
theorem form_nmb (k n : Int) (s : List Int) (l : List Vr) : formK k n s l = (nmb k n && (decide (k = 4) || s.isEmpty) && (decide (k = 6) || l.isEmpty)) := by
  unfold formK nmb
  by_cases k0 : k = 0
  · subst k0; simp
  by_cases k1 : k = 1
  · subst k1; simp
  by_cases k2 : k = 2
  · subst k2; simp
  by_cases k3 : k = 3
  · subst k3; simp
  by_cases k5 : k = 5
  · subst k5; simp
  by_cases k4 : k = 4
  · subst k4; simp
  by_cases k6 : k = 6
  · subst k6; simp
  simp [k0, k1, k2, k3, k4, k5, k6]
/-- A value by itself, so deep. -/
def ckV (deep : Int) (v : Vr) : Int := if 8 < deep then 16 else if formV v = false then 5 else if 256 < v.s.length ∨ 64 < v.l.length then 20 else 0
set_option maxHeartbeats 2000000 in
set_option maxRecDepth 100000 in
theorem numberMayBe_any (w : World) (k n : Int) : Calls Try.prog 43 #[.int .i64 k, .int .i64 n] w fun e w' => e = .returned (.bool (nmb k n)) ∧ w' = w := by
  by_cases k0 : k = 0
  · subst k0
    have HK := hid (show nmb 0 n = decide (n = 0) by simp [nmb])
    go_enter Try.func43, Try.ntmps43
    go_wp2 <;> (go_ret; exact ⟨ret_bool (by rw [HK.out] <;> first | rfl | (simp_all; done) | (simp_all; intros; omega)), rfl⟩)
  by_cases k4 : k = 4
  · subst k4
    have HK := hid (show nmb 4 n = decide (n = 0) by simp [nmb])
    go_enter Try.func43, Try.ntmps43
    go_wp2 <;> (go_ret; exact ⟨ret_bool (by rw [HK.out] <;> first | rfl | (simp_all; done) | (simp_all; intros; omega)), rfl⟩)
  by_cases k6 : k = 6
  · subst k6
    have HK := hid (show nmb 6 n = decide (n = 0) by simp [nmb])
    go_enter Try.func43, Try.ntmps43
    go_wp2 <;> (go_ret; exact ⟨ret_bool (by rw [HK.out] <;> first | rfl | (simp_all; done) | (simp_all; intros; omega)), rfl⟩)
  by_cases k1 : k = 1
  · subst k1
    have HK := hid (show nmb 1 n = (decide (n = 0) || decide (n = 1)) by simp [nmb])
    go_enter Try.func43, Try.ntmps43
    go_wp2 <;> (go_ret; exact ⟨ret_bool (by rw [HK.out] <;> first | rfl | (simp_all; done) | (simp_all; intros; omega)), rfl⟩)
  by_cases k2 : k = 2
  · subst k2
    have HK := hid (show nmb 2 n = (decide (-2147483648 ≤ n) && decide (n ≤ 2147483647)) by simp [nmb])
    go_enter Try.func43, Try.ntmps43
    go_wp2 <;> (go_ret; exact ⟨ret_bool (by rw [HK.out] <;> first | rfl | (simp_all; done) | (simp_all; intros; omega)), rfl⟩)
  by_cases k3 : k = 3
  · subst k3
    have HK := hid (show nmb 3 n = true by simp [nmb])
    go_enter Try.func43, Try.ntmps43
    go_wp2 <;> (go_ret; exact ⟨ret_bool (by rw [HK.out] <;> first | rfl | (simp_all; done) | (simp_all; intros; omega)), rfl⟩)
  by_cases k5 : k = 5
  · subst k5
    have HK := hid (show nmb 5 n = true by simp [nmb])
    go_enter Try.func43, Try.ntmps43
    go_wp2 <;> (go_ret; exact ⟨ret_bool (by rw [HK.out] <;> first | rfl | (simp_all; done) | (simp_all; intros; omega)), rfl⟩)
  have HK := hid (show nmb k n = false by simp [nmb, k0, k1, k2, k3, k4, k5, k6])
  have b0 : (k == 0) = false := by simpa using k0
  have b1 : (k == 1) = false := by simpa using k1
  have b2 : (k == 2) = false := by simpa using k2
  have b3 : (k == 3) = false := by simpa using k3
  have b5 : (k == 5) = false := by simpa using k5
  have b4 : (k == 4) = false := by simpa using k4
  have b6 : (k == 6) = false := by simpa using k6
  clear k0 k1 k2 k3 k4 k5 k6
  go_enter Try.func43, Try.ntmps43
  go_wp2
  go_ret
  exact ⟨ret_bool HK.out.symm, rfl⟩
set_option maxHeartbeats 4000000 in
set_option maxRecDepth 100000 in
theorem checkOne_any (w : World) (v : Vr) (a : Option Addr) (c : Nat) (deep : Int) : Calls Try.prog 27 #[.agg #[.int .i64 v.k, .int .i64 v.n, .string (strI v.s), .slice a v.l.length c], .int .i64 deep] w fun e w' => e = .returned (.int .i64 (ckV deep v)) ∧ Below w.heap.size w w' := by
  obtain ⟨k, n, s, l⟩ := v
  simp only [Vr.k, Vr.n, Vr.s, Vr.l]
  have HV := hid (show ckV deep (.mk k n s l) = if 8 < deep then 16 else if formK k n s l = false then 5 else if 256 < s.length ∨ 64 < l.length then 20 else 0 from rfl)
  rw [form_nmb] at HV
  have hl : l.isEmpty = (l.length == 0) := by cases l <;> rfl
  rw [hl] at HV
  obtain ⟨L, hL⟩ : ∃ L, L = l.length := ⟨_, rfl⟩
  rw [← hL] at HV ⊢
  have HSZ := hid (strI_size s)
  have HS : ((strI s).toList = [] ∧ s.isEmpty = true) ∨ ((strI s).toList.isEmpty = false ∧ s.isEmpty = false) := by
    by_cases h : s = []
    · exact .inl ⟨str_none h, by rw [h]; rfl⟩
    · exact .inr ⟨str_some h, by cases s with | nil => exact absurd rfl h | cons => rfl⟩
  generalize strI s = bs at *
  have HN := hid (fun W => numberMayBe_any W k n)
  have HB := hid (fun o => (Below.refl w.heap.size w).alloc (Nat.le_refl _) o)
  clear hl hL
  by_cases hd : 8 < deep
  · have d1 : decide (8 < deep) = true := by simpa using hd
    have HR := hid (HV.out.trans (if_pos hd))
    clear HV hd HS
    go_enter Try.func27, Try.ntmps27
    go_wp2
    go_ret
    exact ⟨ret_int HR.out.symm, HB.out _⟩
  have d1 : decide (8 < deep) = false := by simpa using hd
  rw [if_neg hd] at HV
  clear hd
  cases hnm : nmb k n with
  | false =>
    rw [hnm] at HV HN
    have HR := hid (HV.out.trans (if_pos (by simp)))
    clear HV HS hnm
    go_enter Try.func27, Try.ntmps27
    go_wp2_with fail
    refine (HN.out _).mono ?_
    rintro e w1 ⟨rfl, rfl⟩
    go_wp2
    go_ret
    exact ⟨ret_int HR.out.symm, HB.out _⟩
  | true =>
    rw [hnm] at HV HN
    clear hnm
    have L0 : L = 0 ∨ 0 < L := by omega
    have nb : bs.toList.isEmpty = false → bs.toList = [] → False := fun h e => by rw [e] at h; cases h
    by_cases k4 : k = 4
    · subst k4
      rcases L0 with h0 | h0
      · have d0 : decide ((0 : Int) < (L : Int)) = false := by simp; omega
        have d00 : decide (0 < L) = false := by simp; omega
        rcases HS with ⟨hs, hse⟩ | ⟨hs, hse⟩
        all_goals
          clear nb
          have HE := hid hse
          have H0 := hid h0
          clear hse h0
          by_cases h2 : 256 < s.length
          · have d2 : decide ((256 : Int) < (bs.size : Int)) = true := by rw [HSZ.out]; simp; omega
            have HR := hid (show ckV deep _ = 20 from HV.out.trans (by simp [H0.out, HE.out, h2]))
            clear HV h2
            go_enter Try.func27, Try.ntmps27
            go_wp2_with fail
            refine (HN.out _).mono ?_
            rintro e w1 ⟨rfl, rfl⟩
            go_wp2
            go_ret
            exact ⟨ret_int HR.out.symm, HB.out _⟩
          · have d2 : decide ((256 : Int) < (bs.size : Int)) = false := by rw [HSZ.out]; simp; omega
            by_cases h3 : 64 < L
            · have d3 : decide ((64 : Int) < (L : Int)) = true := by simp; omega
              have HR := hid (show ckV deep _ = 20 from HV.out.trans (by first | (simp [H0.out, HE.out, h2]; done) | (exfalso; have := H0.out; omega)))
              clear HV h2 h3
              go_enter Try.func27, Try.ntmps27
              go_wp2_with fail
              refine (HN.out _).mono ?_
              rintro e w1 ⟨rfl, rfl⟩
              go_wp2
              go_ret
              exact ⟨ret_int HR.out.symm, HB.out _⟩
            · have d3 : decide ((64 : Int) < (L : Int)) = false := by simp; omega
              have HR := hid (show ckV deep _ = 0 from HV.out.trans (by first | (simp [H0.out, HE.out, h2]; done) | (exfalso; have := H0.out; omega)))
              clear HV h2 h3
              go_enter Try.func27, Try.ntmps27
              go_wp2_with fail
              refine (HN.out _).mono ?_
              rintro e w1 ⟨rfl, rfl⟩
              go_wp2
              go_ret
              exact ⟨ret_int HR.out.symm, HB.out _⟩
      · have d0 : decide ((0 : Int) < (L : Int)) = true := by simp; omega
        have d00 : decide (0 < L) = true := by simp; omega
        clear HS nb
        have HR := hid (show ckV deep _ = 5 from HV.out.trans (by simp [show (L == 0) = false by simp; omega]))
        clear HV
        go_enter Try.func27, Try.ntmps27
        go_wp2_with fail
        refine (HN.out _).mono ?_
        rintro e w1 ⟨rfl, rfl⟩
        go_wp2
        go_ret
        exact ⟨ret_int HR.out.symm, HB.out _⟩
    have b4 : (k != 4) = true := by simpa using k4
    rcases HS with ⟨hs, hse⟩ | ⟨hs, hse⟩
    · by_cases k6 : k = 6
      · subst k6
        clear b4 nb L0
        have HE := hid hse
        clear hse
        by_cases h2 : 256 < s.length
        · have d2 : decide ((256 : Int) < (bs.size : Int)) = true := by rw [HSZ.out]; simp; omega
          have HR := hid (show ckV deep _ = 20 from HV.out.trans (by simp [HE.out, h2]))
          clear HV h2
          go_enter Try.func27, Try.ntmps27
          go_wp2_with fail
          refine (HN.out _).mono ?_
          rintro e w1 ⟨rfl, rfl⟩
          go_wp2
          go_ret
          exact ⟨ret_int HR.out.symm, HB.out _⟩
        · have d2 : decide ((256 : Int) < (bs.size : Int)) = false := by rw [HSZ.out]; simp; omega
          by_cases h3 : 64 < L
          · have d3 : decide ((64 : Int) < (L : Int)) = true := by simp; omega
            have HR := hid (show ckV deep _ = 20 from HV.out.trans (by first | (simp [HE.out, h2, h3]; done) | (exfalso; have := H0.out; omega)))
            clear HV h2 h3
            go_enter Try.func27, Try.ntmps27
            go_wp2_with fail
            refine (HN.out _).mono ?_
            rintro e w1 ⟨rfl, rfl⟩
            go_wp2
            go_ret
            exact ⟨ret_int HR.out.symm, HB.out _⟩
          · have d3 : decide ((64 : Int) < (L : Int)) = false := by simp; omega
            have HR := hid (show ckV deep _ = 0 from HV.out.trans (by first | (simp [HE.out, h2, h3]; done) | (exfalso; have := H0.out; omega)))
            clear HV h2 h3
            go_enter Try.func27, Try.ntmps27
            go_wp2_with fail
            refine (HN.out _).mono ?_
            rintro e w1 ⟨rfl, rfl⟩
            go_wp2
            go_ret
            exact ⟨ret_int HR.out.symm, HB.out _⟩
      · have b6 : (k != 6) = true := by simpa using k6
        rcases L0 with h0 | h0
        · have d0 : decide ((0 : Int) < (L : Int)) = false := by simp; omega
          have d00 : decide (0 < L) = false := by simp; omega
          clear nb
          have HE := hid hse
          have H0 := hid h0
          clear hse h0
          by_cases h2 : 256 < s.length
          · have d2 : decide ((256 : Int) < (bs.size : Int)) = true := by rw [HSZ.out]; simp; omega
            have HR := hid (show ckV deep _ = 20 from HV.out.trans (by simp [H0.out, HE.out, h2]))
            clear HV h2
            go_enter Try.func27, Try.ntmps27
            go_wp2_with fail
            refine (HN.out _).mono ?_
            rintro e w1 ⟨rfl, rfl⟩
            go_wp2
            go_ret
            exact ⟨ret_int HR.out.symm, HB.out _⟩
          · have d2 : decide ((256 : Int) < (bs.size : Int)) = false := by rw [HSZ.out]; simp; omega
            by_cases h3 : 64 < L
            · have d3 : decide ((64 : Int) < (L : Int)) = true := by simp; omega
              have HR := hid (show ckV deep _ = 20 from HV.out.trans (by first | (simp [H0.out, HE.out, h2]; done) | (exfalso; have := H0.out; omega)))
              clear HV h2 h3
              go_enter Try.func27, Try.ntmps27
              go_wp2_with fail
              refine (HN.out _).mono ?_
              rintro e w1 ⟨rfl, rfl⟩
              go_wp2
              go_ret
              exact ⟨ret_int HR.out.symm, HB.out _⟩
            · have d3 : decide ((64 : Int) < (L : Int)) = false := by simp; omega
              have HR := hid (show ckV deep _ = 0 from HV.out.trans (by first | (simp [H0.out, HE.out, h2]; done) | (exfalso; have := H0.out; omega)))
              clear HV h2 h3
              go_enter Try.func27, Try.ntmps27
              go_wp2_with fail
              refine (HN.out _).mono ?_
              rintro e w1 ⟨rfl, rfl⟩
              go_wp2
              go_ret
              exact ⟨ret_int HR.out.symm, HB.out _⟩
        · have d0 : decide ((0 : Int) < (L : Int)) = true := by simp; omega
          have d00 : decide (0 < L) = true := by simp; omega
          have HR := hid (show ckV deep _ = 5 from HV.out.trans (by simp [k6, show (L == 0) = false by simp; omega]))
          clear HV nb k4 k6 h0 hse
          go_enter Try.func27, Try.ntmps27
          go_wp2_with fail
          refine (HN.out _).mono ?_
          rintro e w1 ⟨rfl, rfl⟩
          go_wp2
          go_ret
          exact ⟨ret_int HR.out.symm, HB.out _⟩
    · have hs2 : ¬ bs.toList = [] := fun e => nb hs e
      have HR := hid (show ckV deep _ = 5 from HV.out.trans (by simp [k4, hse]))
      clear HV nb k4 L0 hse
      go_enter Try.func27, Try.ntmps27
      go_wp2_with fail
      refine (HN.out _).mono ?_
      rintro e w1 ⟨rfl, rfl⟩
      go_wp2
      go_ret
      exact ⟨ret_int HR.out.symm, HB.out _⟩
end Go.Proofs.Ytplckmoeaeabgaa
