/-
  The walks of CycleGarbage and CycleNil.
-/
import Derived.Test.YtjmhlmohennknabCyFrame
import Derived.Laws.AppendOwnNone
namespace Go.Proofs.Ytjmhlmohennknab
open Go Go.ChangeShapes Go.WideShapes Go.ChangeAt Go.RowKit

/-- append of a told row. -/
theorem wpList_appI {w : World} {ops : Array Oper} {rest : List Oper} {o : Oper} {a : Act} {Q : Exit → Act → World → Prop} (hg : o.guard = none) (s x : Operand)
    (ho : o.op = Op.call { callee := Callee.builtin Builtin.append, args := #[s, x], argTypes := #[26, 26] }) (B : Nat) (v xv : Value) (n : Nat) (xs us : List Int) (hs : a.eval s = v) (hown : w.ownsRow B TI 1 v n (xs.map iv)) (hx : a.eval x = xv)
    (hT : Tl iv w.heap.size w xv us) (hN : NilOk xv) (hl : xs.length + us.length ≤ 1000000) (hB : B ≤ w.heap.size)
    (hK : ∀ v' w', w'.ownsRow B TI 1 v' (n + us.length) ((xs ++ us).map iv) → w.grownBy w' v.ownBlock → (v'.ownBlock = v.ownBlock ∨ v'.ownBlock = some w.heap.size) → wpList Try.prog ops Q rest (a.put o.dst v') w') : wpList Try.prog ops Q (o :: rest) a w := by
  obtain ⟨i, h1, h2, h3, h4⟩ := info_split infoI
  have hml : (9223372036854775807 : Nat) = maxLen := rfl
  have hnx : n = xs.length := by have := hown.1; simp at this; omega
  obtain ⟨ad, c, rfl, hc1, hc2, hcell⟩ := hT.ex
  rcases hN with e | ⟨a', n', c', e⟩
  · simp only [Value.slice.injEq] at e
    obtain ⟨rfl, e2, rfl⟩ := e
    have hus : us = [] := List.length_eq_zero_iff.1 e2
    subst hus
    refine wpList_append_own_none hg s x 26 ho B TI i 1 Try.underlying26 h1 v n _ hs hown hx ?_
    refine hK v w (by simpa using hown) ⟨rfl, rfl, rfl, Nat.le_refl _, fun _ _ _ => rfl⟩ (.inl rfl)
  · simp only [Value.slice.injEq] at e
    obtain ⟨rfl, -, -⟩ := e
    refine wpList_append_own_at _ hg s x 26 ho B TI i (.int .i64 0) 1 8 Try.underlying26 h1 h2 h3 h4 rfl (by decide) v n _ hs hown a' us.length c (us.map iv) hx (by simp) (fun j u hu => ?_) (by simp [Value.oneCell']) (by omega) (by omega) hB ?_
    · have hj := (List.getElem?_eq_some_iff.1 hu).1
      rw [List.length_map] at hj
      obtain ⟨b, o', e3, _, h7⟩ := hcell (by omega)
      simp only [Option.some.injEq] at e3
      subst e3
      rw [List.getElem?_map, Option.map_eq_some_iff] at hu
      obtain ⟨z, hz, rfl⟩ := hu
      rw [Addr.add_lit]
      exact h7 j z hz
    · intro v' w' k1 k2 _ k4
      exact hK v' w' (by rw [List.map_append]; exact k1) k2 k4
set_option maxRecDepth 100000 in
set_option maxHeartbeats 4000000 in
theorem CycleGarbage_any (w : World) (cv ev sv : Value) (cs : List Int) (es : List (List Int)) (su : List Int) (hG : GrW w.heap.size w cv ev cs es) (hS : Tl iv w.heap.size w sv su) (hN : NilOk sv) :
    Calls Try.prog 3 #[.agg #[cv, ev], sv] w fun e w' => e = .returned (.bool true) ∧ Below w.heap.size w w' := by
  obtain ⟨w1, hw1⟩ : ∃ w1, w1 = w.alloc (.cells #[cv, ev] TGr) := ⟨_, rfl⟩
  have hb1 : Below w.heap.size w w1 := by rw [hw1]; exact (Below.refl _ _).alloc (Nat.le_refl _) _
  have hg1 := heap_alloc_new w (.cells #[cv, ev] TGr)
  rw [← hw1] at hg1
  have hG1 := (hG.below hb1).up hb1.size
  have hS1 := (hS.below hb1).up hb1.size
  have HGR := hid (great_any w1 cv ev sv cs es su hG1 hS1)
  have HG1 := hid hG1
  have HS1 := hid hS1
  have HGB := hid hg1
  have HB1 := hid hb1
  have HW1 := hid hw1
  have HNIL := hid hN
  obtain ⟨ca, cc, rfl, _⟩ := hG.c.ex
  obtain ⟨ea, ec, rfl, _⟩ := hG.e
  obtain ⟨sa, sc, rfl, hsc1, hsc2, _⟩ := hS.ex
  have hat1 := hid (AtL.row hg1 : AtL w1 w.heap.size 0 _)
  clear hG hS hg1 hb1 hw1 hN hG1 hS1
  go_enter Try.func3, Try.ntmps3
  go_upto_region 1 with fail
  rw [← HW1.out]
  clear HW1
  go_wp2_with (first
    | ((with_reducible refine at_op ⟨some 7, _, _, _, _, _⟩ ?_); go_loud (refine wpList_run rfl _ (load_cells Try.underlying25 (by rfl) (by kernel_rfl) rfl rfl hat1.out) ?_))
    | fail)
  refine HGR.out.mono ?_
  rintro e w2 ⟨r, rfl, hb2, hsm⟩
  have hB2 := HB1.out.trans (hb2.mono HB1.out.size)
  have hg2 := (hb2.block _ (Array.getElem?_eq_some_iff.1 HGB.out).1).trans HGB.out
  have hat2 := hid (AtL.row hg2 : AtL w2 w.heap.size 0 _)
  have HG2 := hid ((HG1.out.below hb2).up hb2.size)
  have HS2 := hid ((HS1.out.below hb2).up hb2.size)
  have HB2 := hid hB2
  have HGB2 := hid hg2
  have HSM := hid hsm
  clear hb2 hB2 hg2 hsm HGR HG1 HS1 HB1 HGB hat1
  cases r with
  | true =>
    have HA := hid (awake_any w2)
    go_wp2_with fail
    refine HA.out.mono ?_
    rintro e w3 ⟨rfl, hb3⟩
    have HB3 := hid (HB2.out.trans (hb3.mono HB2.out.size))
    clear hb3 HA
    go_wp2_with fail
    go_ret
    exact ⟨rfl, HB3.out⟩
  | false =>
    have hsm := HSM.out rfl
    obtain ⟨w3, hw3⟩ : ∃ w3, w3 = w2.alloc (.cells #[] TI) := ⟨_, rfl⟩
    have hb3 : Below w2.heap.size w2 w3 := by rw [hw3]; exact (Below.refl _ _).alloc (Nat.le_refl _) _
    have hr3 : w3.ownsRow w2.heap.size TI 1 (.slice (some ⟨w2.heap.size, 0, none⟩) 0 0) 0 ([].map iv) := by rw [hw3]; exact World.ownsRow_made w2 #[] 0 (Nat.le_refl _) (by unfold maxLen; omega) rfl
    have HR3 := hid hr3
    have HS3 := hid ((HS2.out.below hb3).up hb3.size)
    have HB3 := hid hb3
    have HW3 := hid hw3
    have HSMA := hid hsm
    have hsl := hsm.s
    clear hr3 hb3 hw3 hsm HSM
    generalize hq : su.length = ns at *
    have HQ := hid hq
    clear hq
    go_upto_region 4 with (first
      | ((with_reducible refine at_op ⟨some 13, _, _, _, _, _⟩ ?_); rw [← HW3.out]; go_loud (refine wpList_appI rfl (.tmp 11) (.tmp 12) rfl w2.heap.size (.slice (some ⟨w2.heap.size, 0, none⟩) 0 0) (.slice sa ns sc) 0 [] su rfl HR3.out rfl HS3.out HNIL.out (by rw [HQ.out]; simp; omega) (by have := HB3.out.size; omega) ?_); intro v4 w4 k1 k2 k3; have K1 := hid k1; have K2 := hid k2; clear k1 k2 k3)
      | fail)
    rw [show (Value.slice (some ⟨w2.heap.size, 0, none⟩) 0 0).ownBlock = some w2.heap.size from rfl] at K2
    have hb24 : Below w2.heap.size w2 w4 := HB3.out.grown K2.out (Nat.le_trans (Nat.le_refl _) HB3.out.size) (fun k hk => by cases hk; exact Nat.le_refl _)
    have hg4 := (hb24.block _ (Array.getElem?_eq_some_iff.1 HGB2.out).1).trans HGB2.out
    have hat4 := hid (AtL.row hg4 : AtL w4 w.heap.size 0 _)
    have hT4 : Tl iv w4.heap.size w4 v4 su := own_told K1.out
    have HG4 := hid ((HG2.out.below hb24).up hb24.size)
    have HS4 := hid ((HS2.out.below hb24).up hb24.size)
    have HT4 := hid hT4
    have HB4 := hid (HB2.out.trans (hb24.mono HB2.out.size))
    have HGB4 := hid hg4
    have HGA := hid (Garbage_any w4 _ _ v4 cs es su HG4.out hT4 (by have := HSMA.out.c; omega) (by have := HSMA.out.t; omega) (Nat.le_trans wi_len (by have := HSMA.out.s; omega)))
    clear hb24 hg4 hT4 HR3 HS3 HB3 HW3 K1 K2 HG2 HS2 HB2 HGB2 hat2
    go_wp2_with (first
      | ((with_reducible refine at_op ⟨some 14, _, _, _, _, _⟩ ?_); go_loud (refine wpList_run rfl _ (load_cells Try.underlying25 (by rfl) (by kernel_rfl) rfl rfl hat4.out) ?_))
      | fail)
    refine HGA.out.mono ?_
    rintro e w5 ⟨v5, rfl, hT5, hb5⟩
    have hg5 := (hb5.block _ (Array.getElem?_eq_some_iff.1 HGB4.out).1).trans HGB4.out
    have hat5 := hid (AtL.row hg5 : AtL w5 w.heap.size 0 _)
    have HG5 := hid ((HG4.out.below hb5).up hb5.size)
    have HS5 := hid ((HS4.out.below hb5).up hb5.size)
    have HI5 := hid ((HT4.out.below hb5).up hb5.size)
    have HT5 := hid hT5.ints
    have HB5 := hid (HB4.out.trans (hb5.mono HB4.out.size))
    have HRG := hid (RGarbage_any w5 _ _ _ cs es su HG5.out HS5.out (by have := HSMA.out.c; omega) (by have := HSMA.out.t; omega))
    clear hT5 hb5 hg5 HGA HG4 HS4 HT4 HB4 HGB4 hat4
    go_wp2_with (first
      | ((with_reducible refine at_op ⟨some 18, _, _, _, _, _⟩ ?_); go_loud (refine wpList_run rfl _ (load_cells Try.underlying25 (by rfl) (by kernel_rfl) rfl rfl hat5.out) ?_))
      | fail)
    refine HRG.out.mono ?_
    rintro e w6 ⟨v6, rfl, hT6, hb6⟩
    have HS6 := hid ((HS5.out.below hb6).up hb6.size)
    have HI6 := hid ((HI5.out.below hb6).up hb6.size)
    have HB6 := hid (HB5.out.trans (hb6.mono HB5.out.size))
    have HSM1 := hid (SameI_tl w6 v5 v6 _ ((HT5.out.below hb6).up hb6.size) hT6.ints)
    clear hT6 hb6 HRG HS5 HI5 HT5 HB5 HG5 hat5
    go_wp2_with fail
    refine HSM1.out.mono ?_
    rintro e w7 ⟨rfl, hb7⟩
    have HSM2 := hid (SameI_tl w7 v4 _ su ((HI6.out.below hb7).up hb7.size) ((HS6.out.below hb7).up hb7.size))
    have HB7 := hid (HB6.out.trans (hb7.mono HB6.out.size))
    clear hb7 HSM1 HS6 HI6 HB6
    go_wp2_with (first
      | (go_at_call 12; refine HSM2.out.mono ?_; rintro e w8 ⟨rfl, hb8⟩; have HB8 := hid (HB7.out.trans (hb8.mono HB7.out.size)); clear hb8)
      | (go_at_call 10; refine (awake_any _).mono ?_; rintro e w9 ⟨rfl, hb9⟩; have HB9 := hid (HB8.out.trans (hb9.mono HB8.out.size)); clear hb9)
      | fail)
    go_ret
    exact ⟨rfl, HB9.out⟩
end Go.Proofs.Ytjmhlmohennknab
