/-
  The contract of the plain twin's Same (layer 6).
-/
import Derived.Test.YtplckmoeaeabgaaVrD
import Derived.Test.YtplckmoeaeabgaaMixD
namespace Go.Proofs.Ytplckmoeaeabgaa
open Go Go.ChangeShapes Go.WideShapes Go.ChangeAt Go.RowKit

def SamePost (w : World) (v u : Vr) (e : Ending) (w' : World) : Prop := (∃ r : Bool, e = .returned (.bool r) ∧ (r = true ↔ v = u)) ∧ Below w.heap.size w w'
set_option maxRecDepth 100000 in
theorem SamePost.no {w w' : World} {v u : Vr} (h : v ≠ u) (hB : Below w.heap.size w w') : SamePost w v u (.returned (.bool false)) w' := ⟨⟨false, rfl, by simp [h]⟩, hB⟩
set_option maxRecDepth 100000 in
theorem SamePost.yes {w w' : World} {v u : Vr} (h : v = u) (hB : Below w.heap.size w w') : SamePost w v u (.returned (.bool true)) w' := ⟨⟨true, rfl, by simp [h]⟩, hB⟩
set_option maxRecDepth 100000 in
theorem strI_ne {s t : List Int} (hs : Byt s) (ht : Byt t) (h : s ≠ t) : ((strI s).toList == (strI t).toList) = false := by
  rw [strI_beq hs ht]; simpa using h
set_option maxRecDepth 100000 in
theorem all_same {l l' : List Vr} (hl : l.length = l'.length) (h : ∀ j, j < l.length → l[j]? = l'[j]?) : l = l' := List.ext_getElem? fun i => by
  by_cases hi : i < l.length
  · exact h i hi
  · rw [List.getElem?_eq_none (by omega), List.getElem?_eq_none (by omega)]
set_option maxRecDepth 100000 in
theorem two_alloc (w : World) (o o' : Obj) : ((w.alloc o).alloc o').heap[w.heap.size]? = some o ∧ ((w.alloc o).alloc o').heap[w.heap.size + 1]? = some o' := ⟨heap_alloc2_old _ _ _, heap_alloc2_new _ _ _⟩
set_option maxHeartbeats 2000000 in
set_option maxRecDepth 100000 in
theorem Same_any (v : Vr) : ∀ (u : Vr) (cs ds : List Value) (w : World), VIn w w.heap.size v cs → VIn w w.heap.size u ds → Calls Try.prog 18 #[.agg cs.toArray, .agg ds.toArray] w (SamePost w v u) := by
  induction v using Vr.ind with
  | h k n s l ih =>
    intro u cs ds w hv hu
    obtain ⟨k', n', t, l'⟩ := u
    obtain ⟨a, c, rfl, hc, _, hs, _, _, hp⟩ := hv.open
    obtain ⟨a', c', rfl, hc', _, ht, _, _, hp'⟩ := hu.open
    simp only [Vr.k, Vr.n, Vr.s, Vr.l] at *
    obtain ⟨L, hL⟩ : ∃ L, L = l.length := ⟨_, rfl⟩
    obtain ⟨M, hM⟩ : ∃ M, M = l'.length := ⟨_, rfl⟩
    rw [← hL] at hc ⊢
    rw [← hM] at hc' ⊢
    have HL := hid hL
    have HM := hid hM
    have HP := hid hp
    have HP' := hid hp'
    have IH := hid ih
    have hkk : k ≠ k' → Vr.mk k n s l ≠ Vr.mk k' n' t l' := fun h e => by cases e; exact h rfl
    have hnn : n ≠ n' → Vr.mk k n s l ≠ Vr.mk k' n' t l' := fun h e => by cases e; exact h rfl
    have hss : s ≠ t → Vr.mk k n s l ≠ Vr.mk k' n' t l' := fun h e => by cases e; exact h rfl
    have hLM : L ≠ M → Vr.mk k n s l ≠ Vr.mk k' n' t l' := fun h e => by cases e; exact h (hL.trans hM.symm)
    have hst : s ≠ t → ((strI s).toList == (strI t).toList) = false := strI_ne hs ht
    have HB := hid (fun o o' => ((Below.refl w.heap.size w).alloc (Nat.le_refl _) o).alloc (show w.heap.size ≤ (w.alloc o).heap.size by simp) o')
    clear hv hu hp hp' ih hL hM hs ht
    by_cases h1 : k = k'
    · subst h1
      by_cases h2 : n = n'
      · subst h2
        by_cases h3 : s = t
        · subst h3
          by_cases h4 : L = M
          · subst h4
            clear hkk hnn hss hLM hst
            generalize strI s = bs at *
            go_enter Try.func18, Try.ntmps18
            go_wp2
            have hpair := two_alloc w (.cells #[.int .i64 k, .int .i64 n, .string bs, .slice a L c] 24) (.cells #[.int .i64 k, .int .i64 n, .string bs, .slice a' L c'] 24)
            have hb2 := HB.out (.cells #[.int .i64 k, .int .i64 n, .string bs, .slice a L c] 24) (.cells #[.int .i64 k, .int .i64 n, .string bs, .slice a' L c'] 24)
            obtain ⟨w2, hw2⟩ : ∃ w2, w2 = (w.alloc (.cells #[.int .i64 k, .int .i64 n, .string bs, .slice a L c] 24)).alloc (.cells #[.int .i64 k, .int .i64 n, .string bs, .slice a' L c'] 24) := ⟨_, rfl⟩
            obtain ⟨bx, hbx⟩ : ∃ bx, bx = w.heap.size := ⟨_, rfl⟩
            obtain ⟨by', hby⟩ : ∃ by', by' = w.heap.size + 1 := ⟨_, rfl⟩
            rw [← hw2] at hpair hb2 ⊢
            rw [← hby] at hpair ⊢
            rw [← hbx] at hpair ⊢
            obtain ⟨hx2, hy2⟩ := hpair
            have HX2 := hid hx2
            have HY2 := hid hy2
            have HB2 := hid hb2
            clear hw2 hbx hby hx2 hy2 hb2 HB
            go_loopw [5] (fun i wr => ∃ q : Nat, q ≤ L ∧ i = .int .i64 q ∧ RowKit.Hid (∀ j, j < q → l[j]? = l'[j]?) ∧ RowKit.Hid (Below w.heap.size w wr) ∧ RowKit.Hid (wr.heap[bx]? = some (.cells #[.int .i64 k, .int .i64 n, .string bs, .slice a L c] 24 (0, 0))) ∧ RowKit.Hid (wr.heap[by']? = some (.cells #[.int .i64 k, .int .i64 n, .string bs, .slice a' L c'] 24 (0, 0)))) (fun i _ => L - (intOf i).toNat)
            case atStart => exact ⟨0, by omega, rfl, hid (fun j hj => absurd hj (by omega)), HB2, HX2, HY2⟩
            case round =>
              obtain ⟨q, hq, rfl, HZ, HBr, HXr, HYr⟩ := hrel
              obtain ⟨_, _, _, c3⟩ := box_cells HXr.out
              obtain ⟨_, _, _, d3⟩ := box_cells HYr.out
              by_cases hqL : q < L
              · have hx : l[q]? = some (l[q]'(by rw [← HL.out]; exact hqL)) := List.getElem?_eq_getElem _
                generalize l[q]'(by rw [← HL.out]; exact hqL) = x at hx
                have hy : l'[q]? = some (l'[q]'(by rw [← HM.out]; exact hqL)) := List.getElem?_eq_getElem _
                generalize l'[q]'(by rw [← HM.out]; exact hqL) = y at hy
                obtain ⟨b, o, cx, rfl, hb, hat, hxin⟩ := HP.out q x hx
                obtain ⟨b', o', cy, rfl, hb', hat', hyin⟩ := HP'.out q y hy
                have hinx := VIn.mono HBr.out.size (VIn.kept hxin HBr.out)
                have hiny := VIn.mono HBr.out.size (VIn.kept hyin HBr.out)
                obtain ⟨ax, kx, hcx, _⟩ := hinx.open
                obtain ⟨ay, ky, hcy, _⟩ := hiny.open
                have hat2 := hat.below HBr.out
                have hat2' := hat'.below HBr.out
                rw [hcx] at hat2
                rw [hcy] at hat2'
                have HIX := hid (IH.out x (List.mem_of_getElem? hx) y cx cy wr.drew (VIn.on hinx ((Below.refl _ wr).drew)) (VIn.on hiny ((Below.refl _ wr).drew)))
                rw [hcx, hcy] at HIX
                have HX := hid hx
                have HY := hid hy
                obtain ⟨e0, e1, e2, e3⟩ := row_cells hat2
                obtain ⟨f0, f1, f2, f3⟩ := row_cells hat2'
                clear hx hy hat hat' hxin hyin hinx hiny hat2 hat2' hcx hcy
                generalize x.k = xk at *
                generalize x.n = xn at *
                generalize strI x.s = xs at *
                generalize x.l.length = xl at *
                generalize y.k = yk at *
                generalize y.n = yn at *
                generalize strI y.s = ys at *
                generalize y.l.length = yl at *
                go_wp2
                refine D.wp_region_mix [0, 1, 0, 0, 1, 0, 1, 0, 0, 1, 3, 0] (fun W => W = wr.drew) (by kernel_rfl) (by kernel_rfl) rfl ?_
                repeat (first
                  | (refine' C.wpMix_value _ rfl rfl _ _; rotate_left; (solve | (intro W; go_simp) | (intro W; go_simp; with_reducible rfl)); simp only [Act.put, List.setIfInBounds_toArray, List.set_cons_zero, List.set_cons_succ])
                  | (refine' C.wpMix_read _ rfl rfl _ _; rotate_left; (solve | (rintro W rfl; go_simp) | (rintro W rfl; go_simp; with_reducible rfl)); simp only [Act.put, List.setIfInBounds_toArray, List.set_cons_zero, List.set_cons_succ]))
                refine C.wpMix_call 18 #[.agg #[.int .i64 xk, .int .i64 xn, .string xs, .slice ax xl kx], .agg #[.int .i64 yk, .int .i64 yn, .string ys, .slice ay yl ky]] (by decide) rfl (by go_simp) ?_
                refine HIX.out.mono ?_
                rintro e w5 ⟨⟨r, rfl, hr⟩, hb5⟩
                have hb5' : Below wr.heap.size wr w5 := ((Below.refl wr.heap.size wr).drew).trans hb5
                have HB5 := hid (HBr.out.trans (hb5'.mono HBr.out.size))
                have HX5 := hid ((hb5'.block bx (lt_of_heap HXr.out)).trans HXr.out)
                have HY5 := hid ((hb5'.block by' (lt_of_heap HYr.out)).trans HYr.out)
                have HRR := hid hr
                refine ⟨_, rfl, (fun h => by cases h), ?_⟩
                simp only [Act.put, List.setIfInBounds_toArray, List.set_cons_zero, List.set_cons_succ]
                clear hb5 hb5' hr HIX e0 e1 e2 e3 f0 f1 f2 f3 c3 d3
                cases r with
                | true =>
                  have hxy := HRR.out.1 rfl
                  have HXY := hid hxy
                  clear hxy HRR
                  repeat (refine' C.wpMix_value _ rfl rfl _ _; rotate_left; (solve | (intro W; go_simp) | (intro W; go_simp; with_reducible rfl)); simp only [Act.put, List.setIfInBounds_toArray, List.set_cons_zero, List.set_cons_succ])
                  refine C.wpMix_end ?_
                  go_wp2
                  go_roundw
                  case rel => exact ⟨q + 1, by omega, by go_num, hid (fun j hj => by
                    by_cases ej : j = q
                    · subst ej
                      rw [HX.out, HY.out, HXY.out]
                    · exact HZ.out j (by omega)), HB5, HX5, HY5⟩
                  case measure => simp [intOf]; omega
                | false =>
                  have hxy : x ≠ y := fun e => by have := HRR.out.2 e; cases this
                  have HN := hid (show Vr.mk k n s l ≠ Vr.mk k n s l' from fun e => by
                    cases e
                    have := HX.out.symm.trans HY.out
                    exact hxy (Option.some.inj this))
                  clear hxy HRR
                  repeat (refine' C.wpMix_value _ rfl rfl _ _; rotate_left; (solve | (intro W; go_simp) | (intro W; go_simp; with_reducible rfl)); simp only [Act.put, List.setIfInBounds_toArray, List.set_cons_zero, List.set_cons_succ])
                  refine C.wpMix_end ?_
                  go_wp2
                  go_ret
                  exact SamePost.no HN.out HB5.out
              · obtain rfl : q = L := by omega
                have he := hid (all_same (HL.out.symm.trans HM.out) (fun j hj => HZ.out j (by rw [HL.out]; exact hj)))
                go_wp2
                go_ret
                exact SamePost.yes (by rw [he.out]) HBr.out
          · have HN := hid (hLM h4)
            have d1 : ((L : Int) != (M : Int)) = true := by simp; omega
            have d2 : (L != M) = true := by simp; omega
            clear hkk hnn hss hLM hst h4
            generalize strI s = bs at *
            go_enter Try.func18, Try.ntmps18
            go_wp2
            go_ret
            exact SamePost.no HN.out (HB.out _ _)
        · have HN := hid (hss h3)
          have d1 := hst h3
          have d2 : ¬ (strI s).toList = (strI t).toList := by simpa using d1
          clear hkk hnn hss hLM hst h3
          generalize strI s = bs at *
          generalize strI t = bt at *
          go_enter Try.func18, Try.ntmps18
          go_wp2
          go_ret
          exact SamePost.no HN.out (HB.out _ _)
      · have HN := hid (hnn h2)
        have d1 : (n != n') = true := by simpa using h2
        clear hkk hnn hss hLM hst h2
        generalize strI s = bs at *
        generalize strI t = bt at *
        go_enter Try.func18, Try.ntmps18
        go_wp2
        go_ret
        exact SamePost.no HN.out (HB.out _ _)
    · have HN := hid (hkk h1)
      have d1 : (k != k') = true := by simpa using h1
      clear hkk hnn hss hLM hst h1
      generalize strI s = bs at *
      generalize strI t = bt at *
      go_enter Try.func18, Try.ntmps18
      go_wp2
      go_ret
      exact SamePost.no HN.out (HB.out _ _)
end Go.Proofs.Ytplckmoeaeabgaa
