/-
  Leases: Ping, Leave, Left, Now, New.
-/
import Derived.Test.YtbdhjkdojgdhbaaLvB
namespace Go.Proofs.Ytbdhjkdojgdhbaa
open Go Go.ChangeShapes Go.WideShapes Go.ChangeAt Go.RowKit Go.Maps

section
variable {w w' : World} {p b n : Nat} {z : Lz}
set_option maxHeartbeats 4000000 in
set_option maxRecDepth 100000 in
theorem Ping_le (h : LeI w p b n z) (hrise : Rise z.l) (ht : z.time ≤ 1000000) (hnow : 0 ≤ z.now ∧ z.now ≤ 1000000000) (hn : n < 9223372036854775807) {k : Int} (hk : Hn k) :
    Calls Try.prog 19 #[.pointer (some ⟨p, 0, none⟩), .int .u64 k] w fun e w' => e = .returned (.int .i64 (if hasK k z.l then 0 else 12)) ∧ LeI w' p b (n + 1) (z.ping k) ∧ Fr (fun j => j = b) w w' := by
  have HH := hid (has_any h ht hk)
  have hd : LeI w.drew p b n z := h.no (Fr.refl _ _).drew
  obtain ⟨w2, hr2, hi2, hf2⟩ := hd.put hk hnow hn
  have c1 := h.c1
  have c2 := h.c2
  obtain ⟨T, hT⟩ : ∃ T, T = z.now := ⟨_, rfl⟩
  rw [← hT] at hr2 c1
  have HF := hid (((Fr.refl (fun j => j = b) w).drew).trans hf2 (fun _ e _ => e))
  have HS := hid hrise
  have HI := hid hi2
  have H0 := hid (show LeI w p b (n + 1) z from ⟨h.hp, h.hm.mono (Nat.le_succ _), h.ne, h.tm, h.hk⟩)
  generalize hhv : hasK k z.l = hv at HH ⊢
  have HV := hid hhv
  clear h hd hi2 hf2 hT hk hrise hhv
  cases hv with
  | true =>
    go_enter Try.func19, Try.ntmps19
    go_upto_region 3 with (first
      | (go_at_call 26; refine HH.out.mono ?_; rintro e w' ⟨rfl, rfl⟩)
      | fail)
    refine D.wp_region_mix [0, 0, 0, 1, 0, 0, 0, 0, 1, 3] (fun W => W.cell? ⟨p, 2, none⟩ = some (.map (some b)) ∧ W.cell? ⟨p, 1, none⟩ = some (iv T)) (by kernel_rfl) (by kernel_rfl) ⟨c2, c1⟩ ?_
    repeat (first
      | (refine' C.wpMix_value _ rfl rfl _ _; rotate_left; (solve | (intro W; go_simp) | (intro W; go_simp; with_reducible rfl)); simp only [Act.put, List.setIfInBounds_toArray, List.set_cons_zero, List.set_cons_succ])
      | (refine' C.wpMix_read _ rfl rfl _ _; rotate_left; (solve | (rintro W ⟨h1, h2⟩; go_simp) | (rintro W ⟨h1, h2⟩; go_simp; with_reducible rfl)); simp only [Act.put, List.setIfInBounds_toArray, List.set_cons_zero, List.set_cons_succ]))
    refine C.wpMix_skip w2 (by decide) rfl (by go_simp) (fun h => by cases h) ?_
    refine C.wpMix_end ?_
    go_wp2_with fail
    go_ret
    refine ⟨rfl, ?_, HF.out⟩
    unfold Lz.ping
    rw [if_pos HV.out, ← in_set k z.now HS.out HV.out]
    exact HI.out
  | false =>
    go_enter Try.func19, Try.ntmps19
    go_wp2_with (first
      | (go_at_call 26; refine HH.out.mono ?_; rintro e w' ⟨rfl, rfl⟩)
      | fail)
    go_ret
    refine ⟨rfl, ?_, Fr.refl _ _⟩
    unfold Lz.ping
    rw [if_neg (by rw [HV.out]; decide)]
    exact H0.out
set_option maxHeartbeats 4000000 in
set_option maxRecDepth 100000 in
theorem Leave_le (h : LeI w p b n z) (ht : z.time ≤ 1000000) {k : Int} (hk : Hn k) :
    Calls Try.prog 20 #[.pointer (some ⟨p, 0, none⟩), .int .u64 k] w fun e w' => e = .returned (.bool (hasK k z.l)) ∧ LeI w' p b n (z.leave k) ∧ Fr (fun j => j = b) w w' := by
  have HH := hid (has_any h ht hk)
  have c2 := h.c2
  have HM := hid h.hm
  have HK := hid (keyUi hk)
  have H0 := hid h
  generalize hhv : hasK k z.l = hv at HH ⊢
  have HV := hid hhv
  clear h hk hhv
  cases hv with
  | true =>
    go_enter Try.func20, Try.ntmps20
    go_wp2_with (first
      | (go_at_call 26; refine HH.out.mono ?_; rintro e w' ⟨rfl, rfl⟩)
      | (at_delete; refine wpList_delete_own _ rfl _ _ TMp TU rfl 3 lawUi Try.underlying55 _ b n _ rfl HM.out _ _ rfl HK.out ?_; intro w1 hown1 hturn1; have HO1 := hid hown1; have HT1 := hid hturn1; clear hown1 hturn1)
      | fail)
    go_ret
    have hf := fr_mapTurned HT1.out
    refine ⟨rfl, ⟨?_, ?_, H0.out.ne, H0.out.tm, fun x hx => H0.out.hk x (out_ne hx).2⟩, hf⟩
    · rw [hf.block p H0.out.ltp (fun e => H0.out.ne e.symm)]; exact H0.out.hp
    · have := HO1.out
      rw [datO_cut] at this
      exact this.mono (by omega)
  | false =>
    go_enter Try.func20, Try.ntmps20
    go_wp2_with (first
      | (go_at_call 26; refine HH.out.mono ?_; rintro e w' ⟨rfl, rfl⟩)
      | fail)
    go_ret
    refine ⟨rfl, ?_, Fr.refl _ _⟩
    have e : z.leave k = z := by
      unfold Lz.leave
      rw [out_none (fun x hx e2 => by
        have : hasK k z.l = true := List.any_eq_true.2 ⟨x, hx, by simpa using e2⟩
        rw [HV.out] at this; cases this)]
    rw [e]
    exact H0.out
theorem left_any (h : LeI w p b n z) (ht : z.time ≤ 1000000) (hnow : z.now ≤ 1000000000) {t : Int} (h0 : 0 ≤ t ∧ t ≤ z.now) :
    Calls Try.prog 27 #[.pointer (some ⟨p, 0, none⟩), .int .i64 t] w fun e w' => e = .returned (iv (z.time - (z.now - t))) ∧ Fr (fun _ => False) w w' := by
  have c0 := h.c0
  have c1 := h.c1
  have tm := h.tm
  obtain ⟨T, hT⟩ : ∃ T, T = z.time := ⟨_, rfl⟩
  obtain ⟨Nw, hN⟩ : ∃ Nw, Nw = z.now := ⟨_, rfl⟩
  rw [← hT] at c0 ht tm ⊢
  rw [← hN] at c1 hnow h0 ⊢
  clear h hT hN
  have hw1 : IntKind.i64.wrap (Nw - t) = Nw - t := IntWalk.i64_in _ (by omega)
  have hw2 : IntKind.i64.wrap (T - (Nw - t)) = T - (Nw - t) := IntWalk.i64_in _ (by omega)
  go_enter Try.func27, Try.ntmps27
  go_upto_region 1 with fail
  go_quiet (fail)
  go_wp2_with fail
  go_ret
  exact ⟨rfl, (Fr.refl _ _).drewN nq⟩
theorem Now_any (h : LeI w p b n z) : Calls Try.prog 11 #[.pointer (some ⟨p, 0, none⟩)] w fun e w' => e = .returned (iv z.now) ∧ w = w' := by
  have c1 := h.c1
  generalize z.now = T at c1 ⊢
  clear h
  go_enter Try.func11, Try.ntmps11
  go_wp2
  go_ret
  exact ⟨rfl, rfl⟩
theorem Now_nil (w : World) : Calls Try.prog 11 #[.pointer none] w fun e w' => e = .returned (iv 0) ∧ w = w' := by
  go_enter Try.func11, Try.ntmps11
  go_wp2
  go_ret
  exact ⟨rfl, rfl⟩
set_option maxHeartbeats 4000000 in
set_option maxRecDepth 100000 in
theorem Left_le (h : LeI w p b n z) (ht : z.time ≤ 1000000) (hnow : z.now ≤ 1000000000) (hheard : ∀ x ∈ z.l, 0 ≤ x.2 ∧ x.2 ≤ z.now) {k : Int} (hk : Hn k) :
    Calls Try.prog 12 #[.pointer (some ⟨p, 0, none⟩), .int .u64 k] w fun e w' => e = .returned (.tuple #[iv (if hasK k z.l then z.time - z.now + atK k z.l else 0), .int .i64 (if hasK k z.l then 0 else 12)]) ∧ Fr (fun _ => False) w w' := by
  have HH := hid (has_any h ht hk)
  have c2 := h.c2
  have hl := h.look hk
  have HLF := hid (show hasK k z.l = true → Calls Try.prog 27 #[.pointer (some ⟨p, 0, none⟩), .int .i64 (getO k z.l)] w fun e w' => e = .returned (iv (z.time - (z.now - getO k z.l))) ∧ Fr (fun _ => False) w w' from fun e => by
    obtain ⟨x, hx, hxk⟩ := List.any_eq_true.1 e
    have hf : (k, getO k z.l) ∈ z.l := by
      have hsome : (z.l.find? (fun p => p.1 == k)).isSome = true := List.find?_isSome.2 ⟨x, hx, hxk⟩
      obtain ⟨y, hy⟩ := Option.isSome_iff_exists.1 hsome
      have h1 := List.mem_of_find?_eq_some hy
      have h2 := List.find?_some hy
      simp at h2
      unfold getO
      rw [hy]
      obtain ⟨y1, y2⟩ := y
      simp at h2
      subst h2
      exact h1
    exact left_any h ht hnow (hheard _ hf))
  clear h hk hheard
  generalize hga : getO k z.l = ga at hl HLF
  generalize hhv : hasK k z.l = hv at HH HLF ⊢
  cases hv with
  | true =>
    have HLG := hid (HLF.out rfl)
    have HA := hid ((at_getO hhv).trans hga)
    clear HLF hhv hga
    go_enter Try.func12, Try.ntmps12
    go_wp2_with (first
      | (go_at_call 26; refine HH.out.mono ?_; rintro e w' ⟨rfl, rfl⟩)
      | (go_at_call 27; refine HLG.out.mono ?_; rintro e w1 ⟨rfl, hf1⟩; have HF1 := hid hf1; clear hf1)
      | fail)
    go_ret2
    refine ⟨?_, HF1.out⟩
    have e : z.time - z.now + atK k z.l = z.time - (z.now - ga) := by rw [HA.out]; omega
    first
      | rw [if_pos rfl, if_pos rfl, e]; rfl
      | rw [e]; rfl
  | false =>
    go_enter Try.func12, Try.ntmps12
    go_wp2_with (first
      | (go_at_call 26; refine HH.out.mono ?_; rintro e w' ⟨rfl, rfl⟩)
      | fail)
    go_ret2
    exact ⟨rfl, Fr.refl _ _⟩
theorem allowed_any (w : World) (a : Int) : Calls Try.prog 21 #[iv a] w fun e w' => e = .returned (.bool (decide (1 ≤ a ∧ a ≤ 1000))) ∧ w = w' := by
  by_cases h1 : 1 ≤ a
  · by_cases h2 : a ≤ 1000
    · have hd : decide (1 ≤ a ∧ a ≤ 1000) = true := by simp; omega
      rw [hd]
      clear hd
      go_enter Try.func21, Try.ntmps21
      go_wp2
      go_ret
      exact ⟨by simp, rfl⟩
    · have hd : decide (1 ≤ a ∧ a ≤ 1000) = false := by simp; omega
      rw [hd]
      clear hd
      go_enter Try.func21, Try.ntmps21
      go_wp2
      go_ret
      exact ⟨by simp, rfl⟩
  · have hd : decide (1 ≤ a ∧ a ≤ 1000) = false := by simp; omega
    rw [hd]
    clear hd
    go_enter Try.func21, Try.ntmps21
    go_wp2
    go_ret
    exact ⟨by simp, rfl⟩
set_option maxHeartbeats 4000000 in
set_option maxRecDepth 100000 in
theorem New_le (w : World) (a b : Int) : Calls Try.prog 7 #[iv a, iv b] w fun e w' => Below w.heap.size w w' ∧
    (if 1 ≤ a ∧ a ≤ 1000 ∧ 1 ≤ b ∧ b ≤ 1000 then e = .returned (.tuple #[.pointer (some ⟨w.heap.size + 1, 0, none⟩), .int .i64 0]) ∧ LeI w' (w.heap.size + 1) w.heap.size 0 ⟨a * b, 0, []⟩ else w = w' ∧ e = .returned (.tuple #[.pointer none, .int .i64 1])) := by
  have HA := hid (allowed_any w a)
  have HB := hid (allowed_any w b)
  have hmm := @run_makeMap Try.prog
  by_cases h1 : 1 ≤ a ∧ a ≤ 1000
  · by_cases h2 : 1 ≤ b ∧ b ≤ 1000
    · rw [decide_eq_true h1] at HA
      rw [decide_eq_true h2] at HB
      refine Calls.mono (R := fun e w' => w' = (w.alloc (.map #[] 0)).alloc (.cells #[iv (a * b), iv 0, .map (some w.heap.size)] TLz) ∧ e = .returned (.tuple #[.pointer (some ⟨w.heap.size + 1, 0, none⟩), .int .i64 0])) ?_ ?_
      · have h6 : a * b ≤ 1000 * 1000 := Int.mul_le_mul h1.2 h2.2 (by omega) (by omega)
        have h7 : 0 < a * b := Int.mul_pos (by omega) (by omega)
        have HW := hid (IntWalk.wrap64_in (a * b) (by omega))
        clear h1 h2 h6 h7
        go_enter Try.func7, Try.ntmps7
        go_wp2_with fail
        refine HA.out.mono ?_
        rintro e w' ⟨rfl, rfl⟩
        go_wp2_with fail
        refine HB.out.mono ?_
        rintro e w' ⟨rfl, rfl⟩
        go_wp2_with fail
        go_ret2
        refine ⟨?_, rfl⟩
        rw [HW.out]
      · rintro e w' ⟨rfl, rfl⟩
        refine ⟨((Below.refl _ _).alloc (Nat.le_refl _) _).alloc (by simp) _, ?_⟩
        rw [if_pos ⟨h1.1, h1.2, h2⟩]
        have h7 : 0 < a * b := Int.mul_pos (by omega) (by omega)
        refine ⟨rfl, ⟨?_, (World.ownsMap_made w _ _ _).alloc _, by omega, by show 1 ≤ a * b; omega, fun x hx => by cases hx⟩⟩
        have := heap_alloc_new (w.alloc (.map #[] 0)) (.cells #[iv (a * b), iv 0, .map (some w.heap.size)] TLz)
        simpa using this
    · rw [decide_eq_true h1] at HA
      rw [decide_eq_false h2] at HB
      refine Calls.mono (R := fun e w' => w = w' ∧ e = .returned (.tuple #[.pointer none, .int .i64 1])) ?_ ?_
      · clear h1 h2
        go_enter Try.func7, Try.ntmps7
        go_wp2_with fail
        refine HA.out.mono ?_
        rintro e w' ⟨rfl, rfl⟩
        go_wp2_with fail
        refine HB.out.mono ?_
        rintro e w' ⟨rfl, rfl⟩
        go_wp2_with fail
        go_ret2
        exact ⟨rfl, rfl⟩
      · rintro e w' ⟨rfl, rfl⟩
        refine ⟨Below.refl _ _, ?_⟩
        rw [if_neg (fun hc => h2 hc.2.2)]
        exact ⟨rfl, rfl⟩
  · rw [decide_eq_false h1] at HA
    refine Calls.mono (R := fun e w' => w = w' ∧ e = .returned (.tuple #[.pointer none, .int .i64 1])) ?_ ?_
    · clear h1
      go_enter Try.func7, Try.ntmps7
      go_wp2_with fail
      refine HA.out.mono ?_
      rintro e w' ⟨rfl, rfl⟩
      go_wp2_with fail
      go_ret2
      exact ⟨rfl, rfl⟩
    · rintro e w' ⟨rfl, rfl⟩
      refine ⟨Below.refl _ _, ?_⟩
      rw [if_neg (fun hc => h1 ⟨hc.1, hc.2.1⟩)]
      exact ⟨rfl, rfl⟩
end
end Go.Proofs.Ytbdhjkdojgdhbaa
