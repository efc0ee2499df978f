/-
  The laws of layer 9: CodeChecks.
-/
import Derived.Test.YtidbdmggpljlcaaDoorCdU
import Derived.Test.YtidbdmggpljlcaaDoorSure
namespace Go.Proofs.YtidbdmggpljlcaaDoor
open Go Go.ChangeShapes Go.WideShapes Go.ChangeAt Go.RowKit

theorem map3I {α β : Type} {g : α → β} {fs : List α} {a0 a1 a2 : β} (h : fs.map g = [a0, a1, a2]) : ∃ f0 f1 f2, fs = [f0, f1, f2] ∧ g f0 = a0 ∧ g f1 = a1 ∧ g f2 = a2 := by
  rcases fs with _ | ⟨f0, _ | ⟨f1, _ | ⟨f2, _ | ⟨f3, fs⟩⟩⟩⟩
  all_goals simp at h
  obtain ⟨h0, h1, h2⟩ := h
  exact ⟨f0, f1, f2, rfl, h0, h1, h2⟩
set_option maxRecDepth 100000 in
theorem fieldsI : (Tryd.prog.fieldsOf 32).toList.map (fun f => (f.name, f.type, f.offset)) = [("Op", 3, 0), ("A", 3, 1), ("B", 3, 2)] := by kernel_rfl
set_option maxRecDepth 100000 in
theorem partI_0 (x : Ins) (w : World) : (part 3 (insA x) 0).run Tryd.prog w = .ok (.int .i64 x.op) w := by
  simp [part, isAgg, run_underlying Tryd.underlying3, insA, insc]
set_option maxRecDepth 100000 in
theorem partI_1 (x : Ins) (w : World) : (part 3 (insA x) 1).run Tryd.prog w = .ok (.int .i64 x.a) w := by
  simp [part, isAgg, run_underlying Tryd.underlying3, insA, insc]
set_option maxRecDepth 100000 in
theorem partI_2 (x : Ins) (w : World) : (part 3 (insA x) 2).run Tryd.prog w = .ok (.int .i64 x.b) w := by
  simp [part, isAgg, run_underlying Tryd.underlying3, insA, insc]
set_option maxRecDepth 100000 in
theorem guardI (op : BinOp) (a b : Operand) (xs ys : Array Value) (W : World) : (eqGuard op 32 a b (.agg xs) (.agg ys)).run Tryd.prog W = .ok () W := run_eqGuard_agg W op 32 a b xs ys (by kernel_rfl)
theorem eqI_step {P : Program} {d : Nat} {xs ys : Array Value} {f : Field} {fs : List Field} {w : World} {a b : Value} {r s : Bool} {nm : String} {ty : TypeId} {off : Nat} (hnm : f.name = nm) (hty : f.type = ty) (hoff : f.offset = off) (hn : nm ≠ "_") (ha : (part ty xs off).run P w = .ok a w) (hb : (part ty ys off).run P w = .ok b w) (he : (Op.equalIn d ty a b).run P w = .ok r w)
    (hs : (Op.eqFields d xs ys fs).run P w = .ok s w) : (Op.eqFields d xs ys (f :: fs)).run P w = .ok (r && s) w := by
  rw [Op.eqFields, hnm, hty, hoff, if_pos hn]
  simp only [Sem.run_bind, ha, hb, he, Result.andThen_ok]
  cases r
  · simp
  · simpa using hs
set_option maxRecDepth 100000 in
/-- An instruction is itself. -/
theorem eqIns (x : Ins) (w : World) : (Op.equalIn 10000 32 (.agg (insA x)) (.agg (insA x))).run Tryd.prog w = .ok true w := by
  rw [run_equalIn_struct w 9999 32 _ _ (by kernel_rfl) (by kernel_rfl)]
  have hf := fieldsI
  generalize (Tryd.prog.fieldsOf 32).toList = fs at hf
  have e : ∀ v : Int, (Op.equalIn 9999 3 (.int .i64 v) (.int .i64 v)).run Tryd.prog w = .ok true w := fun v => by
    have h := run_equalIn_int (P := Tryd.prog) w 9998 3 .i64 .i64 v v Tryd.underlying3
    simpa using h
  obtain ⟨f0, f1, f2, rfl, g0, g1, g2⟩ := map3I hf
  clear hf
  simp only [Prod.mk.injEq] at g0 g1 g2
  obtain ⟨n0, t0, o0⟩ := g0
  obtain ⟨n1, t1, o1⟩ := g1
  obtain ⟨n2, t2, o2⟩ := g2
  have hfin : (Op.eqFields 9999 (insA x) (insA x) []).run Tryd.prog w = .ok true w := by simp [Op.eqFields]
  have h2 := eqI_step n2 t2 o2 (by simp) (partI_2 x w) (partI_2 x w) (e _) hfin
  have h1 := eqI_step n1 t1 o1 (by simp) (partI_1 x w) (partI_1 x w) (e _) h2
  exact eqI_step n0 t0 o0 (by simp) (partI_0 x w) (partI_0 x w) (e _) h1
set_option maxRecDepth 100000 in
set_option maxHeartbeats 8000000 in
theorem CodeChecks_any (w : World) (HC : CkC w) (HA : AwC w) (ls : List Ins) (ad : Option Addr) (n c : Nat) (s : Int) (hok : ∀ x ∈ ls, InsOk x) (hs : J64 s) (hr : RwI w w.heap.size ad ls) (hn : n = ls.length) (hc : n ≤ c) (hc2 : c ≤ 9223372036854775807) :
    Calls Tryd.prog 3 #[.slice ad n c, .int .i64 s] w fun e w' => e = .returned (.bool true) ∧ Below w.heap.size w w' := by
  have HAW := hid HA
  have HCC := hid HC
  have HOK := hid hok
  have HR := hid hr
  have HN := hid hn
  have HS := hid hs
  have HG := hid (fun w => great_any ad n c w)
  have hcc1 := hc
  have hcc2 := hc2
  clear hok hr hn hc hc2 HC HA hs
  by_cases hg : 60 < n
  · have d1 : decide (60 < n) = true := decide_eq_true hg
    rw [d1] at HG
    clear hg
    go_enter Tryd.func3, Tryd.ntmps3
    go_wp2_with fail
    refine (HG.out _).mono ?_
    rintro e w2 ⟨rfl, rfl⟩
    go_wp2_with fail
    refine (HAW.out _ (by first | exact Below.refl _ _ | exact HB.out | exact HB1.out | exact HB2.out | exact HB3.out | exact HB4.out | exact HB5.out | exact HB6.out | exact HB7.out | exact HB8.out | exact HB9.out | exact HB10.out | exact HB11.out | exact HBr.out | exact HB11.out.trans (HBr.out.mono HB11.out.size))).mono ?_
    rintro e w3 ⟨rfl, hb3⟩
    have HB3 := hid hb3
    clear hb3
    go_wp2
    go_ret
    exact ⟨rfl, HB3.out⟩
  have d1 : decide (60 < n) = false := decide_eq_false hg
  rw [d1] at HG
  have hn60 : n ≤ 60 := by omega
  clear hg d1
  obtain ⟨i0, hi0q, hz0, hz1, hz2⟩ := info_parts infoInstr
  have hi' := hid hi0q
  have hz0' := hid hz0
  have hz1' := hid hz1
  have hz2' := hid hz2
  clear hi0q hz0 hz1 hz2
  have HM := hid (World.ownsRow_made (base := w.heap.size) (e := 32) (size := 3) w #[] 0 (Nat.le_refl _) (Nat.zero_le _) rfl)
  by_cases hn1 : n = 0
  · subst hn1
    obtain rfl : ls = [] := List.length_eq_zero_iff.1 HN.out.symm
    have hht : heightP [] s = ([], 0, 20) := by rw [heightP, if_pos (.inl (by rfl))]
    have hck : checkP [] s = (0, 0, 20) := by unfold checkP; rw [hht]; rfl
    have HHT := hid hht
    have HB1 := hid ((Below.refl w.heap.size w).alloc (Nat.le_refl _) (.cells #[] 32))
    clear hht HM hi' hz0' hz1' hz2'
    obtain ⟨w1, hw1⟩ : ∃ w1, w1 = w.alloc (.cells #[] 32) := ⟨_, rfl⟩
    rw [← hw1] at HB1
    have HW1 := hid hw1
    clear hw1
    have C1 := hid (fun (w2 : World) (hb : Below w1.heap.size w1 w2) => HCC.out [] s (some ⟨w.heap.size, 0, none⟩) 0 0 w2 (HB1.out.trans (hb.mono HB1.out.size)) (fun x hx => by cases hx) HS.out ⟨fun h => absurd h (by decide), fun _ _ _ i x hx => by cases hx⟩ rfl (Nat.le_refl _) (by decide))
    unfold CkP at C1
    rw [hck] at C1
    clear hck HCC
    cases ad with
    | none =>
      go_enter Tryd.func3, Tryd.ntmps3
      go_wp2_with fail
      refine (HG.out _).mono ?_
      rintro e w2 ⟨rfl, rfl⟩
      go_wp2_with fail
      rw [← HW1.out]
      refine (C1.out w1 (Below.refl _ _)).mono ?_
      rintro e w6 ⟨rfl, hb6⟩
      have HB6 := hid (HB1.out.trans (hb6.mono HB1.out.size))
      clear hb6 C1
      go_wp2_with fail
      refine (Height_any [] s _ 0 c w6 ⟨fun h => absurd h (by decide), fun _ _ _ i x hx => by cases hx⟩ rfl ⟨hcc1, hcc2⟩).mono ?_
      rintro e w7 ⟨a7, d7, rfl, hE⟩
      rw [HHT.out]
      have HB7 := hid (HB6.out.trans (hE.2.1.mono HB6.out.size))
      clear hE HB6
      simp only [List.length_nil]
      go_wp2_with fail
      go_loopw [12] (fun iv wr => iv = .int .i64 0 ∧ RowKit.Hid (Below w.heap.size w wr)) (fun _ _ => 0)
      case atStart => exact ⟨rfl, HB7⟩
      case round =>
        obtain ⟨rfl, HBr⟩ := hrel
        go_wp2_with fail
        refine (HAW.out _ (by first | exact Below.refl _ _ | exact HB.out | exact HB1.out | exact HB2.out | exact HB3.out | exact HB4.out | exact HB5.out | exact HB6.out | exact HB7.out | exact HB8.out | exact HB9.out | exact HB10.out | exact HB11.out | exact HBr.out | exact HB11.out.trans (HBr.out.mono HB11.out.size))).mono ?_
        rintro e w10 ⟨rfl, hb10⟩
        have HB10 := hid (HBr.out.trans (hb10.mono HBr.out.size))
        clear hb10
        go_wp2
        go_ret
        exact ⟨rfl, HB10.out⟩
    | some a =>
      go_enter Tryd.func3, Tryd.ntmps3
      go_wp2_with fail
      refine (HG.out _).mono ?_
      rintro e w2 ⟨rfl, rfl⟩
      go_wp2_with fail
      rw [← HW1.out]
      refine (C1.out w1 (Below.refl _ _)).mono ?_
      rintro e w6 ⟨rfl, hb6⟩
      have HB6 := hid (HB1.out.trans (hb6.mono HB1.out.size))
      clear hb6 C1
      go_wp2_with fail
      refine (Height_any [] s _ 0 c w6 ⟨fun h => absurd h (by decide), fun _ _ _ i x hx => by cases hx⟩ rfl ⟨hcc1, hcc2⟩).mono ?_
      rintro e w7 ⟨a7, d7, rfl, hE⟩
      rw [HHT.out]
      have HB7 := hid (HB6.out.trans (hE.2.1.mono HB6.out.size))
      clear hE HB6
      simp only [List.length_nil]
      go_wp2_with fail
      go_loopw [12] (fun iv wr => iv = .int .i64 0 ∧ RowKit.Hid (Below w.heap.size w wr)) (fun _ _ => 0)
      case atStart => exact ⟨rfl, HB7⟩
      case round =>
        obtain ⟨rfl, HBr⟩ := hrel
        go_wp2_with fail
        refine (HAW.out _ (by first | exact Below.refl _ _ | exact HB.out | exact HB1.out | exact HB2.out | exact HB3.out | exact HB4.out | exact HB5.out | exact HB6.out | exact HB7.out | exact HB8.out | exact HB9.out | exact HB10.out | exact HB11.out | exact HBr.out | exact HB11.out.trans (HBr.out.mono HB11.out.size))).mono ?_
        rintro e w10 ⟨rfl, hb10⟩
        have HB10 := hid (HBr.out.trans (hb10.mono HBr.out.size))
        clear hb10
        go_wp2
        go_ret
        exact ⟨rfl, HB10.out⟩
  obtain ⟨b, o, rfl, _⟩ := HR.out.at_ (by have := HN.out; omega)
  have HNW := hid ((HR.out.on ((Below.refl w.heap.size w).alloc (Nat.le_refl _) (.cells #[] 32))).news)
  have HFL := hid (show (ls.flatMap insc).length = n * 3 by rw [flatI_len, HN.out])
  go_enter Tryd.func3, Tryd.ntmps3
  go_wp2_with fail
  refine (HG.out _).mono ?_
  rintro e w2 ⟨rfl, rfl⟩
  go_wp2_with (first
    | (at_builtin; refine wpList_append_own_at _ (o := ⟨some 18, _, _, _, _, _⟩) rfl (.tmp 16) (.tmp 17) 22 rfl w.heap.size 32 i0 (.agg #[.int .i64 0, .int .i64 0, .int .i64 0]) 3 24 Tryd.underlying22 hi'.out hz0'.out hz1'.out hz2'.out rfl (by decide) (.slice (some ⟨w.heap.size, 0, none⟩) 0 0) 0 _ rfl HM.out ⟨b, o, none⟩ n c (ls.flatMap insc) rfl HFL.out HNW.out (flatI_one ls) (by unfold maxLen; omega) (by omega) (by simp) ?_; intro v5 w5 hown5 hgrow5 hnil5 hat5; have HO5 := hid hown5; have HG5 := hid hgrow5; clear hown5 hgrow5 hnil5 hat5; obtain ⟨a5, d5, rfl⟩ := own_form HO5.out; have HB5 := hid (below_append ((Below.refl w.heap.size w).alloc (Nat.le_refl _) (.cells #[] 32)) HM.out HG5.out (by simp)); have HO5x : Hid (w5.ownsRow w.heap.size 32 3 (.slice a5 n d5) n (ls.flatMap insc)) := hid (by have := HO5.out; rw [Nat.zero_add, List.nil_append] at this; exact this); clear HO5 HG5; have HRO := hid (RwI.of_own HO5x.out); have hdc := own_cap HO5x.out; have hdm := own_capmax HO5x.out; have C1 := hid (HCC.out ls s a5 n d5 w5 HB5.out HOK.out HS.out HRO.out HN.out hdc hdm); have HR5 := hid (HR.out.on HB5.out); clear HNW HFL HM HCC)
    | fail)
  refine C1.out.mono ?_
  rintro e w6 hck
  obtain ⟨m, p, k, hk⟩ : ∃ m p k, checkP ls s = (m, p, k) := ⟨_, _, _, rfl⟩
  have HK := hid hk
  unfold CkP at hck
  rw [hk] at hck
  obtain ⟨rfl, hb6⟩ := hck
  have HB6 := hid (HB5.out.trans (hb6.mono HB5.out.size))
  have HR6 := hid (HR5.out.on hb6)
  have HO6 := hid (HRO.out.on hb6)
  clear hk hb6 HB5 HR5 HRO HO5x C1
  go_wp2_with fail
  refine (Height_any ls s _ n c w6 HR6.out HN.out ⟨hcc1, hcc2⟩).mono ?_
  rintro e w7 ⟨a7, d7, rfl, hE⟩
  have HE7 := hid hE
  have HB7 := hid (HB6.out.trans (hE.2.1.mono HB6.out.size))
  have HR7 := hid (HR6.out.on hE.2.1)
  have HO7 := hid (HO6.out.on hE.2.1)
  clear hE HR6 HO6
  obtain ⟨h, wh, er, hht⟩ : ∃ h wh er, heightP ls s = (h, wh, er) := ⟨_, _, _, rfl⟩
  rw [hht] at HE7 ⊢
  have HHT := hid hht
  simp only at HE7 ⊢
  obtain ⟨m7, hm7⟩ : ∃ m7, m7 = h.length := ⟨_, rfl⟩
  rw [← hm7] at HE7 ⊢
  have HM7 := hid hm7
  clear hht hm7
  obtain ⟨g5, o5, rfl, _⟩ := HO7.out.at_ (by have := HN.out; omega)
  go_wp2_with fail
  go_loopw [12] (fun iv wr => ∃ i : Nat, i ≤ n ∧ iv = .int .i64 i ∧ RowKit.Hid (Below w7.heap.size w7 wr)) (fun iv _ => n - (intOf iv).toNat)
  case atStart => exact ⟨0, by omega, rfl, hid (Below.refl _ _)⟩
  case round =>
    obtain ⟨i, hi, rfl, HBr⟩ := hrel
    by_cases hin : i < n
    · obtain ⟨x, hx⟩ : ∃ x, ls[i]? = some x := ⟨_, List.getElem?_eq_getElem (by have := HN.out; omega)⟩
      have HXA := hid (fun W (hW : Below w7.heap.size w7 W) => ((HR7.out.on hW).rows b o rfl i x hx))
      have HYA := hid (fun W (hW : Below w7.heap.size w7 W) => ((HO7.out.on hW).rows g5 o5 rfl i x hx))
      have heq := eqIns x
      have hgu := guardI
      clear hx
      go_upto_region 9 with (fail)
      refine wp_region_sure (fun W => Below w7.heap.size w7 W) (by kernel_rfl) (by kernel_rfl) HBr.out.drew ?_
      repeat (first
        | ((with_reducible refine atS ⟨some 42, _, _, _, _, _⟩ ?_); refine wpSure_read (.agg (insA x)) rfl (fun W hS => load_ia rfl rfl (HYA.out W hS)) ?_; simp only [Act.put, List.setIfInBounds_toArray, List.set_cons_zero, List.set_cons_succ])
        | ((with_reducible refine atS ⟨some 46, _, _, _, _, _⟩ ?_); refine wpSure_read (.agg (insA x)) rfl (fun W hS => load_ia rfl rfl (HXA.out W hS)) ?_; simp only [Act.put, List.setIfInBounds_toArray, List.set_cons_zero, List.set_cons_succ])
        | (refine' wpSure_value _ rfl _ _; rotate_left; (solve | (intro W; go_simp) | (intro W; go_simp; with_reducible rfl)); simp only [Act.put, List.setIfInBounds_toArray, List.set_cons_zero, List.set_cons_succ]))
      refine wpSure_end (fun w8 hS8 => ?_)
      clear HXA HYA
      go_wp2_with fail
      go_roundw
      case rel => exact ⟨i + 1, by omega, by go_num, hid hS8⟩
      case measure => simp [intOf]; omega
    · obtain rfl : i = n := by omega
      clear hin
      have HRr := hid (HR7.out.on HBr.out)
      have HEr := hid (HE7.out.on HBr.out)
      have HB8 := hid (HB7.out.trans (HBr.out.mono HB7.out.size))
      clear HR7 HE7 HB7 HO7 HBr HB6
      by_cases her : er = 0
      · have hr0 : (heightP ls s).2.2 = 0 := by rw [HHT.out]; exact her
        have hrc := right_of hr0
        have hck := HK.out
        unfold checkP at hck
        rw [if_pos hr0] at hck
        rw [HHT.out] at hrc hck
        simp only [Prod.mk.injEq] at hrc hck
        obtain ⟨hk1, rfl, rfl⟩ := hck
        subst her
        have hsm := run_small ls.length hrc.2.2 (Nat.le_refl _)
        have hml : m7 = i := by rw [HM7.out, HN.out]; exact hsm.1
        subst hml
        obtain ⟨g7, rfl⟩ := HEr.out.form (by omega)
        have CM := hid (Most_any ls s (some ⟨b, o, none⟩) m7 c h (some ⟨g7, 0, none⟩) m7 d7 wr HRr.out HN.out hcc1 HM7.out (Nat.le_refl _) (own_cap HEr.out.1) (by omega) (fun j hj => ⟨g7, 0, rfl, by
          have h1 := HEr.out.cell hj
          exact World.block_lt_of_cell? wr ⟨g7, j, none⟩ h1, fun q u hu => by
          have hq := (List.getElem?_eq_some_iff.1 hu).1
          rw [i64l_len] at hq
          have h1 := HEr.out.cell (j := q) (by rw [HM7.out]; exact hq)
          rw [Nat.zero_add, h1]
          rw [← hu]
          simp [i64l, hq]⟩) (fun k hk x hx => by
          have := hsm.2 k (by rw [← HN.out]; exact hk) x hx
          omega))
        rw [← HM7.out] at hk1
        rw [hk1] at CM
        clear hsm hrc hr0 HK HHT
        go_wp2_with fail
        refine CM.out.mono ?_
        rintro e w9 ⟨rfl, hb9⟩
        have HB9 := hid (HB8.out.trans (hb9.mono HB8.out.size))
        clear hb9 HB8 CM
        go_wp2_with fail
        refine (HAW.out _ (by first | exact Below.refl _ _ | exact HB.out | exact HB1.out | exact HB2.out | exact HB3.out | exact HB4.out | exact HB5.out | exact HB6.out | exact HB7.out | exact HB8.out | exact HB9.out | exact HB10.out | exact HB11.out | exact HBr.out | exact HB11.out.trans (HBr.out.mono HB11.out.size))).mono ?_
        rintro e w10 ⟨rfl, hb10⟩
        have HB10 := hid (HB9.out.trans (hb10.mono HB9.out.size))
        clear hb10
        go_wp2
        go_ret
        exact ⟨rfl, HB10.out⟩
      · have hck := HK.out
        unfold checkP at hck
        rw [HHT.out] at hck
        simp only [if_neg her, Prod.mk.injEq] at hck
        obtain ⟨rfl, rfl, rfl⟩ := hck
        have d2 : (er != 0) = true := by simpa using her
        clear HK HHT her
        go_wp2_with fail
        refine (HAW.out _ (by first | exact Below.refl _ _ | exact HB.out | exact HB1.out | exact HB2.out | exact HB3.out | exact HB4.out | exact HB5.out | exact HB6.out | exact HB7.out | exact HB8.out | exact HB9.out | exact HB10.out | exact HB11.out | exact HBr.out | exact HB11.out.trans (HBr.out.mono HB11.out.size))).mono ?_
        rintro e w10 ⟨rfl, hb10⟩
        have HB10 := hid (HB8.out.trans (hb10.mono HB8.out.size))
        clear hb10
        go_wp2
        go_ret
        exact ⟨rfl, HB10.out⟩
end Go.Proofs.YtidbdmggpljlcaaDoor
