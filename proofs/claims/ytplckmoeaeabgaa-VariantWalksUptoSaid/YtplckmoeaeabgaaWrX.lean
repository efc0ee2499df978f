/-
  The contract of a reader's Text.
-/
import Derived.Test.YtplckmoeaeabgaaWrR
namespace Go.Proofs.Ytplckmoeaeabgaa
open Go Go.ChangeShapes Go.WideShapes Go.ChangeAt Go.RowKit

set_option maxRecDepth 100000 in
theorem rd_four {xs : List Int} {a : Nat} (h : (rd xs a 4).2.2 = 0) : 4 ≤ (rd xs a 4).2.1 := by
  unfold rd at h ⊢
  split
  · rename_i h1; rw [if_pos h1] at h; cases h
  · rename_i h1
    rw [if_neg h1] at h
    split
    · rename_i h2; rw [if_pos h2] at h; cases h
    · rename_i h2
      rw [if_neg h2] at h
      split
      · rename_i h3; rw [if_pos h3] at h; cases h
      · show 4 ≤ a + gap a (4 : Int).toNat + (4 : Int).toNat
        have : (4 : Int).toNat = 4 := rfl
        omega
set_option maxRecDepth 100000 in
theorem RdText_nil (w : World) (m : Int) : Calls Try.prog 63 #[.pointer none, .int .i64 m] w fun e w' => e = .returned (.tuple #[.slice none 0 0, .int .i64 6]) ∧ Below w.heap.size w w' := by
  have HP := hid (peek_nil w 4 rfl)
  go_enter Try.func63, Try.ntmps63
  go_wp2_with fail
  refine HP.out.mono ?_
  rintro e w1 ⟨rfl, hb1⟩
  have HB1 := hid hb1
  clear hb1
  go_wp2
  go_ret2
  exact ⟨rfl, HB1.out⟩
def RTextPost (w : World) (p : Nat) (v : Value) (xs : List Int) (r : List Int × Nat × Int) (e : Ending) (w' : World) : Prop :=
  ∃ tv, e = .returned (.tuple #[tv, .int .i64 r.2.2]) ∧ w'.ownsRow w.heap.size 5 1 tv r.1.length (u8l r.1) ∧ RdW w' p v r.2.1 xs ∧ Fr (fun j => j = p) w w'
set_option maxRecDepth 100000 in
set_option maxHeartbeats 1000000 in
theorem RdText_any (w : World) (p a : Nat) (v : Value) (xs : List Int) (m : Int) (h : RdW w p v a xs) (hb : Byt xs) (hl : xs.length ≤ 140737488351232) (hm1 : m ≤ 9223372036854775807) : Calls Try.prog 63 #[.pointer (some ⟨p, 0, none⟩), .int .i64 m] w (RTextPost w p v xs (rdT xs a m)) := by
  have HP := hid (peek_any w p a v xs 4 h hb hl)
  have hpl := rd_place (s := 4) h.le
  have hps := rd_pos (a := a) (s := 4) hb
  have h4 := rd_four (xs := xs) (a := a)
  unfold pkV at HP
  obtain ⟨r, hr⟩ : ∃ r, r = rdT xs a m := ⟨_, rfl⟩
  rw [← hr]
  unfold rdT at hr
  generalize rd xs a 4 = q at *
  obtain ⟨n, k, e⟩ := q
  simp only at HP hpl hps hr h4
  have H := hid h
  by_cases he : e = 0
  · subst he
    rw [if_neg (by simp)] at hr
    rw [if_pos rfl] at HP
    obtain ⟨N, rfl⟩ := Int.eq_ofNat_of_zero_le hps.1
    by_cases hm : m < 0 ∨ m < (N : Int)
    · rw [if_pos hm] at hr
      subst hr
      have hE : ∀ w1, Below w.heap.size w w1 → RTextPost w p v xs ([], a, 20) (.returned (.tuple #[.slice none 0 0, .int .i64 20])) w1 := fun w1 hb1 => ⟨_, rfl, World.ownsRow_nil _ _ _ _, H.out.fr (Fr.of_below (fp := fun _ => False) hb1) (fun h => h) (fun _ _ h => h), Fr.of_below hb1⟩
      have HE := hid hE
      clear hE h hb hl hpl
      by_cases hm0 : m < 0
      · have d0 : decide (m < 0) = true := by simpa using hm0
        clear hm hm0 hps
        go_enter Try.func63, Try.ntmps63
        go_wp2_with fail
        refine HP.out.mono ?_
        rintro e w1 ⟨rfl, hb1⟩
        have HB1 := hid hb1
        clear hb1
        go_wp2
        go_ret2
        exact HE.out _ HB1.out
      · have d0 : decide (m < 0) = false := by simpa using hm0
        obtain ⟨M, rfl⟩ := Int.eq_ofNat_of_zero_le (show 0 ≤ m by omega)
        have hw : IntKind.u64.wrap (M : Int) = M := IntWalk.u64_in _ ⟨by omega, by omega⟩
        have d1 : decide (M < N) = true := by simp; omega
        clear hm hm0 hps hm1
        go_enter Try.func63, Try.ntmps63
        go_wp2_with fail
        refine HP.out.mono ?_
        rintro e w1 ⟨rfl, hb1⟩
        have HB1 := hid hb1
        clear hb1
        go_wp2
        go_ret2
        exact HE.out _ HB1.out
    · rw [if_neg hm] at hr
      obtain ⟨M, rfl⟩ := Int.eq_ofNat_of_zero_le (show 0 ≤ m by omega)
      have hw : IntKind.u64.wrap (M : Int) = M := IntWalk.u64_in _ ⟨by omega, by omega⟩
      have d0 : decide ((M : Int) < 0) = false := by simp
      have d1 : decide (M < N) = false := by simp; omega
      obtain ⟨oa, oc, hov⟩ := own_form h.row
      obtain ⟨L, hL⟩ : ∃ L, L = xs.length := ⟨_, rfl⟩
      rw [← hL] at hl hpl hov hr
      have hw2 : IntKind.u64.wrap ((L : Int) - (k : Int)) = (L : Int) - (k : Int) := IntWalk.u64_in _ ⟨by omega, by omega⟩
      have HL := hid hL
      have HOV := hid hov
      have HB := hid hb
      by_cases hsh : (L : Int) - (k : Int) < (N : Int)
      · rw [if_pos hsh] at hr
        subst hr
        have d2 : decide ((L : Int) - (k : Int) < (N : Int)) = true := by simpa using hsh
        clear h hb hm hm1 hps hL hov hsh
        go_enter Try.func63, Try.ntmps63
        go_wp2_with fail
        refine HP.out.mono ?_
        rintro e w1 ⟨rfl, hb1⟩
        have h1 := H.out.fr (Fr.of_below (fp := fun _ => False) hb1) (fun h => h) (fun _ _ h => h)
        have c0 := h1.c0
        rw [HOV.out] at c0
        have H1 := hid h1
        have HB1 := hid hb1
        clear h1 hb1
        go_wp2
        go_ret2
        exact ⟨_, rfl, World.ownsRow_nil _ _ _ _, H1.out, Fr.of_below HB1.out⟩
      · rw [if_neg hsh, Int.toNat_natCast] at hr
        have hk4 : 4 ≤ k := h4 rfl
        obtain ⟨b, cap, hov2, hcap, hcap2⟩ := own_form1 h.row (by omega)
        have e2 := hov2.symm.trans hov
        rw [← hL] at e2 hcap
        cases e2
        have d2 : decide ((L : Int) - (k : Int) < (N : Int)) = false := by simpa using hsh
        have hw3 : IntKind.i64.wrap (N : Int) = N := IntWalk.i64_in _ (by omega)
        have hw4 : IntKind.i64.wrap ((k : Int) + (N : Int)) = (k : Int) + (N : Int) := IntWalk.i64_in _ (by omega)
        have hkn : k + N ≤ L := by omega
        have hlen : ((xs.drop k).take N).length = N := by simp; omega
        have HLEN := hid hlen
        have HR := hid hr
        clear h hb hm hm1 hps hL hov hsh hov2 h4 hr hlen
        go_enter Try.func63, Try.ntmps63
        go_wp2_with fail
        refine HP.out.mono ?_
        rintro e w1 ⟨rfl, hb1⟩
        have h1 := H.out.fr (Fr.of_below (fp := fun _ => False) hb1) (fun h => h) (fun _ _ h => h)
        have c0 := h1.c0
        have c1 := h1.c1
        have z1 := h1.fz 1
        rw [HOV.out] at c0
        have H1 := hid h1
        have HB1 := hid hb1
        have hlt1 := h1.lt
        clear h1 hb1 d2
        have d2 : decide ((L : Int) - (k : Int) < (N : Int)) = false := by simp; omega
        go_wp2
        obtain ⟨q, hq⟩ : ∃ q, q = k + N := ⟨_, rfl⟩
        rw [show (k : Int) + (N : Int) = ((q : Nat) : Int) by omega]
        have h2 := H1.out.set q (by rw [← HL.out]; omega)
        have hf2 : Fr (fun j => j = p) w (w1.setCell ⟨p, 1, none⟩ (.int .i64 q)) := (Fr.of_below HB1.out).setCell _ _ (fun _ => rfl)
        obtain ⟨w2, hw2'⟩ : ∃ w2, w2 = w1.setCell ⟨p, 1, none⟩ (.int .i64 q) := ⟨_, rfl⟩
        rw [← hw2'] at h2 hf2 ⊢
        have c02 := h2.c0
        have c12 := h2.c1
        rw [HOV.out] at c02
        have HF2 := hid hf2
        have H2 := hid h2
        have HQ := hid hq
        have hkq : k ≤ q := by omega
        have hqc : q ≤ oc := by omega
        have hqL : q ≤ L := by omega
        have hN9 : N ≤ 140737488351232 := by omega
        clear h2 hf2 hw2' hq c0 c1 z1 H1 HB1 hlt1 hw2 hw3 hw4 hkn d2 d1 d0 hw HP hk4
        refine D.wp_region_mix [0, 0, 0, 1, 0, 0, 0, 0, 1, 0, 3, 0, 0] (fun W => W.cell? ⟨p, 0, none⟩ = some (.slice (some ⟨b, 0, none⟩) L oc) ∧ W.cell? ⟨p, 1, none⟩ = some (.int .i64 q)) (by kernel_rfl) (by kernel_rfl) ⟨by simpa using c02, by simpa using c12⟩ ?_
        repeat (first
          | (refine' C.wpMix_value _ rfl rfl _ _; rotate_left; (solve | (intro W; go_simp) | (intro W; go_simp; with_reducible rfl)); simp only [Act.put, List.setIfInBounds_toArray, List.set_cons_zero, List.set_cons_succ])
          | (refine' C.wpMix_read _ rfl rfl _ _; rotate_left; (solve | (rintro W ⟨h1, h2⟩; go_simp) | (rintro W ⟨h1, h2⟩; go_simp; with_reducible rfl)); simp only [Act.put, List.setIfInBounds_toArray, List.set_cons_zero, List.set_cons_succ]))
        have h3 := H2.out.fr (w' := w2.drew) ((Fr.refl (fun _ => False) w2).drew) (fun h => h) (fun _ _ h => h)
        have hf3 : Fr (fun j => j = p) w w2.drew := HF2.out.drew
        obtain ⟨w3, hw3⟩ : ∃ w3, w3 = w2.drew := ⟨_, rfl⟩
        rw [← hw3] at h3 hf3 ⊢
        rw [show q - k = N by have := HQ.out; omega]
        obtain ⟨ad, had⟩ : ∃ ad, ad = (if oc = k then some (⟨b, 0, none⟩ : Addr) else some ⟨b, k, none⟩) := ⟨_, rfl⟩
        rw [← had]
        have hbs : Bs w3 w3.heap.size ad ((xs.drop k).take N) := by
          have hrow := h3.row
          rw [HOV.out, HL.out] at hrow
          have h5 := ((own_bs hrow).drop k).take N
          rw [Nat.zero_add] at h5
          by_cases e : oc = k
          · have hn : N = 0 := by have := HQ.out; omega
            rw [hn, List.take_zero]
            exact Bs.nil _ _ _
          · rw [had, if_neg e]; exact h5
        have hnn : ad ≠ none := by rw [had]; split <;> simp
        have HCL := hid (Clone_any w3 ad (oc - k) N ((xs.drop k).take N) HLEN.out.symm hbs (fun h => absurd h hnn) (by omega))
        have H3 := hid h3
        have HF3 := hid hf3
        clear hbs hnn had h3 hf3 hw3 c02 c12 H2 HF2
        refine C.wpMix_call 46 #[.slice ad N (oc - k)] (by decide) rfl (by go_simp) ?_
        refine HCL.out.mono ?_
        rintro e w4 ⟨tv, rfl, hrow4, hb4⟩
        rw [HLEN.out] at hrow4
        obtain ⟨xa, xk, rfl⟩ := own_form hrow4
        have H4 := hid (H3.out.fr (Fr.of_below (fp := fun _ => False) hb4) (fun h => h) (fun _ _ h => h))
        have HF4 := hid (HF3.out.trans (Fr.of_below (fp := fun _ => False) hb4) (fun _ h => h.elim))
        have HR4 := hid (owns_low hrow4 HF3.out.size)
        clear hrow4 hb4
        refine ⟨_, rfl, (fun h => by cases h), ?_⟩
        simp only [Act.put, List.setIfInBounds_toArray, List.set_cons_zero, List.set_cons_succ]
        repeat (refine' C.wpMix_value _ rfl rfl _ _; rotate_left; (solve | (intro W; go_simp) | (intro W; go_simp; with_reducible rfl)); simp only [Act.put, List.setIfInBounds_toArray, List.set_cons_zero, List.set_cons_succ])
        refine C.wpMix_end ?_
        go_wp2
        go_ret2
        rw [HR.out]
        exact ⟨_, rfl, by rw [HLEN.out]; exact HR4.out, by rw [← HQ.out]; exact H4.out, HF4.out⟩
  · rw [if_pos he] at hr
    subst hr
    have hd : (e != 0) = true := by simpa using he
    rw [if_neg he] at HP
    clear h hb hl he hpl hps hm1
    go_enter Try.func63, Try.ntmps63
    go_wp2_with fail
    refine HP.out.mono ?_
    rintro e w1 ⟨rfl, hb1⟩
    have HB1 := hid hb1
    clear hb1
    go_wp2
    go_ret2
    exact ⟨_, rfl, World.ownsRow_nil _ _ _ _, H.out.fr (Fr.of_below (fp := fun _ => False) HB1.out) (fun h => h) (fun _ _ h => h), Fr.of_below HB1.out⟩
end Go.Proofs.Ytplckmoeaeabgaa
