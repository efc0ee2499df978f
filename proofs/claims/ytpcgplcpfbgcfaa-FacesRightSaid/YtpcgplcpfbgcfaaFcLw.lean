/-
  FacesFinds' walk.
-/
import Derived.Test.YtpcgplcpfbgcfaaFcT
import Derived.Test.YtpcgplcpfbgcfaaFcV2
namespace Go.Proofs.Ytpcgplcpfbgcfaa
open Go Go.ChangeShapes Go.WideShapes Go.ChangeAt Go.RowKit

theorem AtL.below {W W' : World} {b o : Nat} {cs : List Value} (h : AtL W b o cs) (hB : Below W.heap.size W W') : AtL W' b o cs := h.fr (Fr.of_below hB)
theorem underL_len (l : List Face) (g : List Int) (n : Nat) : (underL l g n).length ≤ n := by
  have := List.length_filter_le (isUnder l g) (List.range n); simpa [underL] using this
set_option maxHeartbeats 2000000 in
set_option maxRecDepth 100000 in
theorem Finds_any (w : World) (ad : Option Addr) (cap N : Nat) (l : List Face) (g : List Int) (hF : FRow w w.heap.size ad l) (hg : g.length = 16) (hN : N = l.length) :
    Calls Try.prog 5 #[.slice ad N cap, .agg (u8s g)] w fun e w' => e = .returned (.bool true) ∧ Below w.heap.size w w' := by
  have HN := hid hN
  have HG := hid hg
  have hid0 : AtL (w.alloc (.cells (u8s g) 28)) w.heap.size 0 (u8s g).toList := AtL.row (by simpa using heap_alloc_new w (.cells (u8s g) 28))
  have hB0 : Below w.heap.size w (w.alloc (.cells (u8s g) 28)) := (Below.refl _ _).alloc (Nat.le_refl _) _
  by_cases hgr : 60 < N
  · have hd : decide ((60 : Int) < N) = true := by simp; omega
    have HB0 := hid hB0
    clear hgr hid0 hB0 hF hg hN
    go_enter Try.func5, Try.ntmps5
    go_wp2_with (first | (go_at_call 9; refine (great_any _ _ _ _).mono ?_; rintro e w' ⟨rfl, rfl⟩) | fail)
    refine (awake_any _).mono ?_
    rintro e w3 ⟨rfl, hb3⟩
    have HB3 := hid hb3
    clear hb3
    go_wp2
    go_ret
    exact ⟨rfl, HB0.out.trans (HB3.out.mono HB0.out.size)⟩
  · have hd : decide ((60 : Int) < N) = false := by simp; omega
    have hn60 : N ≤ 60 := by omega
    have HF1 := hid (hF.on hB0)
    have HI := hid hid0
    have HB0 := hid hB0
    clear hgr hid0 hB0 hF hg hN
    go_enter Try.func5, Try.ntmps5
    go_wp2_with (first | (go_at_call 9; refine (great_any _ _ _ _).mono ?_; rintro e w' ⟨rfl, rfl⟩) | ((with_reducible refine at_op ⟨some 13, _, _, _, _, _⟩ ?_); refine wpList_run rfl _ (load_id rfl rfl HI.out HG.out) ?_))
    refine (Find_any _ ad N cap l g HG.out HF1.out HN.out (by omega)).mono ?_
    rintro e w2 ⟨rfl, hb2⟩
    have HF2 := hid (HF1.out.on hb2)
    have HB2 := hid (HB0.out.trans (hb2.mono HB0.out.size))
    have HI2 := hid (HI.out.below hb2)
    clear hb2 HF1 HI HB0
    go_wp2_with (first | ((with_reducible refine at_op ⟨some 18, _, _, _, _, _⟩ ?_); refine wpList_run rfl _ (load_id rfl rfl HI2.out HG.out) ?_))
    refine (RFind_any _ ad N cap l g HG.out HF2.out HN.out (by omega)).mono ?_
    rintro e w3 ⟨rfl, hb3⟩
    have HF3 := hid (HF2.out.on hb3)
    have HB3 := hid (HB2.out.trans (hb3.mono HB2.out.size))
    have HI3' := hid (HI2.out.below hb3)
    have HI3 := hid (fun (W : World) (h : Below w3.heap.size w3 W) => HI3'.out.below h)
    have HUN := hid (fun (W : World) (h : Below w3.heap.size w3 W) => Under_any W ad N cap l g HG.out (HF3.out.on h) HN.out (by omega))
    have HRU := hid (fun (W : World) (h : Below w3.heap.size w3 W) => RUnder_any W ad N cap l g HG.out (HF3.out.on h) HN.out (by omega))
    clear hb3 HF2 HI2 HB2 HI3'
    cases hfd : findL l g with
    | some y =>
      have e1 : rfV (some y) = (y : Int) := rfl
      have e2 : ffV (some y) = (y : Int) := rfl
      have e3 : ffE (some y) = 0 := rfl
      have d1 : decide ((y : Int) < 0) = false := by simp
      have d2 : decide (0 ≤ (y : Int)) = true := by simp
      rw [e1, e2, e3]
      clear e1 e2 e3 hfd
      · skip
        go_wp2
        refine D.wp_region_mix [0, 1, 2, 0, 1, 2, 3, 0, 3, 0, 0] (fun W => Below w3.heap.size w3 W) (by kernel_rfl) (by kernel_rfl) (Below.refl _ _).drew ?_
        repeat (first
          | (refine C.wpMix_read _ rfl rfl (fun W hS => load_id rfl rfl (HI3.out W hS) HG.out) ?_; simp only [Act.put, List.setIfInBounds_toArray, List.set_cons_zero, List.set_cons_succ])
          | (refine' C.wpMix_value _ rfl rfl _ _; rotate_left; (solve | (intro W; go_simp) | (intro W; go_simp; with_reducible rfl)); simp only [Act.put, List.setIfInBounds_toArray, List.set_cons_zero, List.set_cons_succ]))
        refine C.wpMix_call 19 #[.slice ad N cap, .agg (u8s g)] (by decide) rfl (by go_simp) ?_
        refine (HUN.out w3.drew ((Below.refl _ _).drew)).mono ?_
        rintro e w4 ⟨lv, rfl, hrow4, hb4⟩
        obtain ⟨xa, xk, rfl⟩ := own_form hrow4
        have HB4 := hid (show Below w3.heap.size w3 w4 from ((Below.refl _ w3).drew).trans hb4)
        have HL4 := hid (lies_of_owns hrow4)
        clear hrow4 hb4
        refine ⟨_, rfl, (fun _ => HB4.out), ?_⟩
        simp only [Act.put, List.setIfInBounds_toArray, List.set_cons_zero, List.set_cons_succ]
        repeat (first
          | (refine C.wpMix_read _ rfl rfl (fun W hS => load_id rfl rfl (HI3.out W hS) HG.out) ?_; simp only [Act.put, List.setIfInBounds_toArray, List.set_cons_zero, List.set_cons_succ])
          | (refine' C.wpMix_value _ rfl rfl _ _; rotate_left; (solve | (intro W; go_simp) | (intro W; go_simp; with_reducible rfl)); simp only [Act.put, List.setIfInBounds_toArray, List.set_cons_zero, List.set_cons_succ]))
        refine C.wpMix_call 20 #[.slice ad N cap, .agg (u8s g)] (by decide) rfl (by go_simp) ?_
        refine (HRU.out w4 HB4.out).mono ?_
        rintro e w5 ⟨lv, rfl, hrow5, hb5⟩
        obtain ⟨ya, yk, rfl⟩ := own_form hrow5
        have HB5 := hid (HB4.out.trans (hb5.mono HB4.out.size))
        have HL5 := hid (lies_of_owns hrow5)
        have HL45 := hid (HL4.out.below hb5)
        clear hrow5 hb5
        refine ⟨_, rfl, (fun _ => HB5.out), ?_⟩
        simp only [Act.put, List.setIfInBounds_toArray, List.set_cons_zero, List.set_cons_succ]
        obtain ⟨nu, hnu⟩ : ∃ nu, nu = (underL l g N).length := ⟨_, rfl⟩
        have hnu2 : nu ≤ 100000 := by have := underL_len l g N; omega
        have HSM := hid (Same_any w5 xa ya xk yk nu (underL l g N) hnu hnu2 HL45.out HL5.out)
        rw [← hnu]
        clear hnu
        refine C.wpMix_call 15 #[.slice xa nu xk, .slice ya nu yk] (by decide) rfl (by go_simp) ?_
        refine HSM.out.mono ?_
        rintro e w6 ⟨rfl, hb6⟩
        have HB6 := hid (HB5.out.trans (hb6.mono HB5.out.size))
        clear hb6
        refine ⟨_, rfl, (fun h => by cases h), ?_⟩
        simp only [Act.put, List.setIfInBounds_toArray, List.set_cons_zero, List.set_cons_succ]
        repeat (first
          | (refine C.wpMix_read _ rfl rfl (fun W hS => load_id rfl rfl (HI3.out W hS) HG.out) ?_; simp only [Act.put, List.setIfInBounds_toArray, List.set_cons_zero, List.set_cons_succ])
          | (refine' C.wpMix_value _ rfl rfl _ _; rotate_left; (solve | (intro W; go_simp) | (intro W; go_simp; with_reducible rfl)); simp only [Act.put, List.setIfInBounds_toArray, List.set_cons_zero, List.set_cons_succ]))
        refine C.wpMix_call 10 #[] (by decide) rfl (by go_simp) ?_
        refine (awake_any w6).mono ?_
        rintro e w7 ⟨rfl, hb7⟩
        have HB7 := hid (HB6.out.trans (hb7.mono HB6.out.size))
        clear hb7
        refine ⟨_, rfl, (fun h => by cases h), ?_⟩
        simp only [Act.put, List.setIfInBounds_toArray, List.set_cons_zero, List.set_cons_succ]
        repeat (first
          | (refine C.wpMix_read _ rfl rfl (fun W hS => load_id rfl rfl (HI3.out W hS) HG.out) ?_; simp only [Act.put, List.setIfInBounds_toArray, List.set_cons_zero, List.set_cons_succ])
          | (refine' C.wpMix_value _ rfl rfl _ _; rotate_left; (solve | (intro W; go_simp) | (intro W; go_simp; with_reducible rfl)); simp only [Act.put, List.setIfInBounds_toArray, List.set_cons_zero, List.set_cons_succ]))
        refine C.wpMix_end ?_
        go_wp2
        go_ret
        exact ⟨rfl, HB3.out.trans (HB7.out.mono HB3.out.size)⟩
    | none =>
      have e1 : rfV none = -1 := rfl
      have e2 : ffV none = 0 := rfl
      have e3 : ffE none = 7 := rfl
      rw [e1, e2, e3]
      clear e1 e2 e3 hfd
      · skip
        go_wp2
        refine D.wp_region_mix [0, 1, 2, 0, 1, 2, 3, 0, 3, 0, 0] (fun W => Below w3.heap.size w3 W) (by kernel_rfl) (by kernel_rfl) (Below.refl _ _).drew ?_
        repeat (first
          | (refine C.wpMix_read _ rfl rfl (fun W hS => load_id rfl rfl (HI3.out W hS) HG.out) ?_; simp only [Act.put, List.setIfInBounds_toArray, List.set_cons_zero, List.set_cons_succ])
          | (refine' C.wpMix_value _ rfl rfl _ _; rotate_left; (solve | (intro W; go_simp) | (intro W; go_simp; with_reducible rfl)); simp only [Act.put, List.setIfInBounds_toArray, List.set_cons_zero, List.set_cons_succ]))
        refine C.wpMix_call 19 #[.slice ad N cap, .agg (u8s g)] (by decide) rfl (by go_simp) ?_
        refine (HUN.out w3.drew ((Below.refl _ _).drew)).mono ?_
        rintro e w4 ⟨lv, rfl, hrow4, hb4⟩
        obtain ⟨xa, xk, rfl⟩ := own_form hrow4
        have HB4 := hid (show Below w3.heap.size w3 w4 from ((Below.refl _ w3).drew).trans hb4)
        have HL4 := hid (lies_of_owns hrow4)
        clear hrow4 hb4
        refine ⟨_, rfl, (fun _ => HB4.out), ?_⟩
        simp only [Act.put, List.setIfInBounds_toArray, List.set_cons_zero, List.set_cons_succ]
        repeat (first
          | (refine C.wpMix_read _ rfl rfl (fun W hS => load_id rfl rfl (HI3.out W hS) HG.out) ?_; simp only [Act.put, List.setIfInBounds_toArray, List.set_cons_zero, List.set_cons_succ])
          | (refine' C.wpMix_value _ rfl rfl _ _; rotate_left; (solve | (intro W; go_simp) | (intro W; go_simp; with_reducible rfl)); simp only [Act.put, List.setIfInBounds_toArray, List.set_cons_zero, List.set_cons_succ]))
        refine C.wpMix_call 20 #[.slice ad N cap, .agg (u8s g)] (by decide) rfl (by go_simp) ?_
        refine (HRU.out w4 HB4.out).mono ?_
        rintro e w5 ⟨lv, rfl, hrow5, hb5⟩
        obtain ⟨ya, yk, rfl⟩ := own_form hrow5
        have HB5 := hid (HB4.out.trans (hb5.mono HB4.out.size))
        have HL5 := hid (lies_of_owns hrow5)
        have HL45 := hid (HL4.out.below hb5)
        clear hrow5 hb5
        refine ⟨_, rfl, (fun _ => HB5.out), ?_⟩
        simp only [Act.put, List.setIfInBounds_toArray, List.set_cons_zero, List.set_cons_succ]
        obtain ⟨nu, hnu⟩ : ∃ nu, nu = (underL l g N).length := ⟨_, rfl⟩
        have hnu2 : nu ≤ 100000 := by have := underL_len l g N; omega
        have HSM := hid (Same_any w5 xa ya xk yk nu (underL l g N) hnu hnu2 HL45.out HL5.out)
        rw [← hnu]
        clear hnu
        refine C.wpMix_call 15 #[.slice xa nu xk, .slice ya nu yk] (by decide) rfl (by go_simp) ?_
        refine HSM.out.mono ?_
        rintro e w6 ⟨rfl, hb6⟩
        have HB6 := hid (HB5.out.trans (hb6.mono HB5.out.size))
        clear hb6
        refine ⟨_, rfl, (fun h => by cases h), ?_⟩
        simp only [Act.put, List.setIfInBounds_toArray, List.set_cons_zero, List.set_cons_succ]
        repeat (first
          | (refine C.wpMix_read _ rfl rfl (fun W hS => load_id rfl rfl (HI3.out W hS) HG.out) ?_; simp only [Act.put, List.setIfInBounds_toArray, List.set_cons_zero, List.set_cons_succ])
          | (refine' C.wpMix_value _ rfl rfl _ _; rotate_left; (solve | (intro W; go_simp) | (intro W; go_simp; with_reducible rfl)); simp only [Act.put, List.setIfInBounds_toArray, List.set_cons_zero, List.set_cons_succ]))
        refine C.wpMix_call 10 #[] (by decide) rfl (by go_simp) ?_
        refine (awake_any w6).mono ?_
        rintro e w7 ⟨rfl, hb7⟩
        have HB7 := hid (HB6.out.trans (hb7.mono HB6.out.size))
        clear hb7
        refine ⟨_, rfl, (fun h => by cases h), ?_⟩
        simp only [Act.put, List.setIfInBounds_toArray, List.set_cons_zero, List.set_cons_succ]
        repeat (first
          | (refine C.wpMix_read _ rfl rfl (fun W hS => load_id rfl rfl (HI3.out W hS) HG.out) ?_; simp only [Act.put, List.setIfInBounds_toArray, List.set_cons_zero, List.set_cons_succ])
          | (refine' C.wpMix_value _ rfl rfl _ _; rotate_left; (solve | (intro W; go_simp) | (intro W; go_simp; with_reducible rfl)); simp only [Act.put, List.setIfInBounds_toArray, List.set_cons_zero, List.set_cons_succ]))
        refine C.wpMix_end ?_
        go_wp2
        go_ret
        exact ⟨rfl, HB3.out.trans (HB7.out.mono HB3.out.size)⟩
end Go.Proofs.Ytpcgplcpfbgcfaa
