/-
  The contract of the plain twin's Walk (layer 6).
-/
import Derived.Test.YtplckmoeaeabgaaVpW
namespace Go.Proofs.Ytplckmoeaeabgaa
open Go Go.ChangeShapes Go.WideShapes Go.ChangeAt Go.RowKit

/-- A value and how deep it is, as cells. -/
def dcells (x : Int × Mv) : List Value := .int .i64 x.1 :: x.2.cells
def rowD (l : List (Int × Mv)) : List Value := (l.map dcells).flatten
theorem rowD_len (l : List (Int × Mv)) : (rowD l).length = l.length * 5 := by
  unfold rowD
  rw [List.length_flatten, List.map_map]
  induction l with
  | nil => rfl
  | cons x l ih => simp [dcells, Mv.cells] at ih ⊢; omega
theorem rowD_app (l r : List (Int × Mv)) : rowD (l ++ r) = rowD l ++ rowD r := by unfold rowD; rw [List.map_append, List.flatten_append]
theorem rowD_one (l : List (Int × Mv)) : ∀ u ∈ rowD l, u.oneCell' = true := fun u hu => by
  unfold rowD at hu
  obtain ⟨c, hc, hu⟩ := List.mem_flatten.1 hu
  obtain ⟨x, _, rfl⟩ := List.mem_map.1 hc
  simp only [dcells, Mv.cells, List.mem_cons, List.not_mem_nil, or_false] at hu
  rcases hu with rfl | rfl | rfl | rfl | rfl <;> rfl
theorem infoDeep : (Try.prog.info? 48).map (fun i => (i.zero, i.size, i.bytes)) = some (some (.agg #[.int .i64 0, .int .i64 0, .int .i64 0, .string ⟨#[]⟩, .slice none 0 0]), 5, 64) := by kernel_rfl
def DPost (w : World) (l : List (Int × Mv)) (e : Ending) (w' : World) : Prop := ∃ lv, e = .returned lv ∧ w'.ownsRow w.heap.size 48 5 lv l.length (rowD l) ∧ Below w.heap.size w w'
set_option maxHeartbeats 4000000 in
set_option maxRecDepth 100000 in
theorem RWalk_any (v : Mv) : ∀ (d : Int) (w : World), MS w (fun k => k < w.heap.size) v → cntV v.vr ≤ 1048576 → Calls Try.prog 20 #[.agg v.cells.toArray, .int .i64 d] w (DPost w (walkM v d)) := by
  induction v using Mv.ind with
  | h k m s a c l ih =>
    intro d w hM hcnt
    have hM' := hM
    cases hM' with
    | mk _ _ _ _ _ _ hk hn hs hc h0 ha hl hp =>
    have hwk : walkM (.mk k m s a c l) d = (d, .mk k m s a c l) :: partsM l d := walkM_mk ..
    rw [hwk]
    rw [Mv.vr_mk, cntV_mk] at hcnt
    have hcx : ∀ x ∈ l, cntV x.vr ≤ 1048576 := fun x hx => by
      have := cnt_part (l := l.map Mv.vr) (x := x.vr) (List.mem_map.2 ⟨x, hx, rfl⟩)
      omega
    have hpl : ∀ q, (partsM (l.take q) d).length ≤ 1048576 := fun q => by
      have h1 := (parts_le l q d).length_le
      have h2 : (partsM l d).length = ((l.map Mv.vr).map cntV).sum := by
        unfold partsM
        rw [List.length_flatMap, List.map_map]
        exact congrArg List.sum (List.map_congr_left fun x _ => walk_cnt x _)
      omega
    have hwx : ∀ x ∈ l, (walkM x (wrap64 (d + 1))).length ≤ 1048576 := fun x hx => by rw [walk_cnt]; exact hcx x hx
    simp only [Mv.cells, Mv.k, Mv.n, Mv.s, Mv.a, Mv.l, Mv.c]
    obtain ⟨L, hL⟩ : ∃ L, L = l.length := ⟨_, rfl⟩
    rw [← hL] at hc ⊢
    obtain ⟨hc1, hc2⟩ := hc
    obtain ⟨bs, hbs⟩ : ∃ bs, bs = strI s := ⟨_, rfl⟩
    rw [← hbs]
    obtain ⟨B1, hB1⟩ : ∃ B1, B1 = Obj.cells #[.int .i64 k, .int .i64 m, .string bs, .slice a L c] 24 := ⟨_, rfl⟩
    obtain ⟨B2, hB2⟩ : ∃ B2, B2 = Obj.cells #[.int .i64 d, .int .i64 k, .int .i64 m, .string bs, .slice a L c] 48 := ⟨_, rfl⟩
    obtain ⟨hx1, hy1⟩ := two_alloc w B1 B2
    replace hx1 := hx1.trans (congrArg some hB1)
    replace hy1 := hy1.trans (congrArg some hB2)
    have hb1 : Below w.heap.size w ((w.alloc B1).alloc B2) := ((Below.refl w.heap.size w).alloc (Nat.le_refl _) B1).alloc (by simp) B2
    have hrow : ((w.alloc B1).alloc B2).ownsRow w.heap.size 48 5 (.slice (some ⟨w.heap.size + 1, 0, none⟩) 1 1) ((d, Mv.mk k m s a c l) :: partsM (l.take 0) d).length (rowD ((d, Mv.mk k m s a c l) :: partsM (l.take 0) d)) := by
      refine ⟨rowD_len _, .inr ⟨w.heap.size + 1, 1, _, rfl, by omega, hy1, Nat.le_refl _, by unfold maxLen; omega, rfl, ?_⟩⟩
      rw [hbs, hL]; rfl
    obtain ⟨i0, hi, hz0, hz1, hz2⟩ := info_parts infoDeep
    have hi' := hid hi
    have hz0' := hid hz0
    have hz1' := hid hz1
    have hz2' := hid hz2
    have HL := hid hL
    have HROW := hid hrow
    have HB := hid hb1
    have HX1 := hid hx1
    have HLL := hid hl
    have HHA := hid ha
    have HIH := hid ih
    have HPP := hid hp
    have HCX := hid hcx
    have HPL := hid hpl
    have HWX := hid hwx
    have HBq1 := hid hB1
    have HBq2 := hid hB2
    clear hM hl ha ih hp hcx hpl hwx hk hn hs h0 hcnt hwk hx1 hy1 hb1 hrow hL hbs hB1 hB2 hi hz0 hz1 hz2
    go_enter Try.func20, Try.ntmps20
    go_wp2
    rw [← HBq1.out, ← HBq2.out]
    obtain ⟨w1, hw1⟩ : ∃ w1, w1 = (w.alloc B1).alloc B2 := ⟨_, rfl⟩
    obtain ⟨bx, hbx⟩ : ∃ bx, bx = w.heap.size := ⟨_, rfl⟩
    rw [← hw1] at HROW HB HX1 ⊢
    rw [← hbx] at HX1 ⊢
    have HQ := hid hbx
    clear hw1 HBq1 HBq2 hbx
    go_loopw [5, 6] (fun ov iv wr => ∃ q : Nat, q ≤ L ∧ iv = .int .i64 q ∧ RowKit.Hid (wr.ownsRow w.heap.size 48 5 ov ((d, Mv.mk k m s a c l) :: partsM (l.take q) d).length (rowD ((d, Mv.mk k m s a c l) :: partsM (l.take q) d))) ∧ RowKit.Hid (Below w.heap.size w wr) ∧ RowKit.Hid (wr.heap[bx]? = some (.cells #[.int .i64 k, .int .i64 m, .string bs, .slice a L c] 24 (0, 0)))) (fun _ iv _ => L - (intOf iv).toNat)
    case atStart => exact ⟨0, by omega, rfl, by rw [HQ.out] at *; exact HROW, HB, HX1⟩
    case round =>
      obtain ⟨q, hq, rfl, HRr, HBr, HXr⟩ := hrel
      obtain ⟨_, _, _, c3⟩ := box_cells HXr.out
      obtain ⟨oa, ok, hov⟩ := own_form HRr.out
      obtain ⟨Q, hQ⟩ : ∃ Q, Q = ((d, Mv.mk k m s a c l) :: partsM (l.take q) d).length := ⟨_, rfl⟩
      rw [← hQ] at hov HRr
      subst hov
      by_cases hqL : q < L
      · have hx : l[q]? = some (l[q]'(by rw [← HL.out]; exact hqL)) := List.getElem?_eq_getElem _
        generalize l[q]'(by rw [← HL.out]; exact hqL) = x at hx
        have hxm := List.mem_of_getElem? hx
        obtain ⟨b, o, rfl, hSb⟩ := HHA.out (by rw [← HL.out]; omega)
        have hat : AtL wr b (o + q * 4) [.int .i64 x.k, .int .i64 x.n, .string (strI x.s), .slice x.a x.l.length x.c] := (HLL.out b o rfl q x hx).below HBr.out
        obtain ⟨e0, e1, e2, e3⟩ := row_cells hat
        have hIX := HIH.out x hxm (wrap64 (d + 1)) wr (((HPP.out x hxm).ks (ks_below HBr.out)).weak (fun k hk => Nat.lt_of_lt_of_le hk HBr.out.size)) (HCX.out x hxm)
        have hcells : x.cells = [.int .i64 x.k, .int .i64 x.n, .string (strI x.s), .slice x.a x.l.length x.c] := rfl
        rw [hcells] at hIX
        have HIX := hid hIX
        have hpt := parts_take d hx
        have hlen : ((d, Mv.mk k m s (some ⟨b, o, none⟩) c l) :: partsM (l.take (q + 1)) d).length = Q + (walkM x (wrap64 (d + 1))).length := by
          rw [hQ, hpt, ← List.cons_append, List.length_append]
        have hrd : rowD ((d, Mv.mk k m s (some ⟨b, o, none⟩) c l) :: partsM (l.take (q + 1)) d) = rowD ((d, Mv.mk k m s (some ⟨b, o, none⟩) c l) :: partsM (l.take q) d) ++ rowD (walkM x (wrap64 (d + 1))) := by
          rw [hpt, ← List.cons_append, rowD_app]
        have hQ1 : Q ≤ 1048577 := by have := HPL.out q; rw [hQ, List.length_cons]; omega
        have hW1 := HWX.out x hxm
        have hW0 : 0 < (walkM x (wrap64 (d + 1))).length := by rw [walk_cnt]; exact cnt_pos _
        have HLEN := hid hlen
        have HRD := hid hrd
        obtain ⟨N5, hN5⟩ : ∃ N5, N5 = (walkM x (wrap64 (d + 1))).length := ⟨_, rfl⟩
        rw [← hN5] at HLEN hW1 hW0
        have HN5 := hid hN5
        unfold DPost at HIX
        rw [← hN5] at HIX
        have HR5 := hid (rowD_len (walkM x (wrap64 (d + 1))))
        have HO5 := hid (rowD_one (walkM x (wrap64 (d + 1))))
        rw [← hN5] at HR5
        generalize rowD (walkM x (wrap64 (d + 1))) = news at *
        clear hx hxm hat hIX hcells hpt hlen hrd hQ hN5
        generalize x.k = xk at *
        generalize x.n = xn at *
        generalize strI x.s = xs at *
        generalize x.l.length = xl at *
        generalize x.a = xa at *
        generalize x.c = xc at *
        go_wp2_with fail
        refine HIX.out.mono ?_
        rintro e w5 ⟨lv, rfl, hrow5, hb5⟩
        have hs5 := Nat.le_trans HBr.out.size hb5.size
        rcases hrow5.2 with ⟨_, h0⟩ | ⟨g5, cap5, cur5, rfl, hg5, hh5, _⟩
        · omega
        have HNEWS := hid (fun (j : Nat) (u : Value) (hu : news[j]? = some u) => show w5.cell? ((⟨g5, 0, none⟩ : Addr).add j) = some u by
          have hj : j < news.length := (List.getElem?_eq_some_iff.1 hu).1
          have h := hrow5.cellAt j (by rw [HR5.out] at hj; exact hj)
          rw [hu] at h
          cases j with
          | zero => simpa [Addr.add] using h
          | succ j => simpa [Addr.add] using h)
        have HROW5 := hid ((Fr.of_below (fp := fun _ => False) hb5).owns HRr.out (fun _ _ h => h))
        have HX5 := hid ((hb5.block bx (lt_of_heap HXr.out)).trans HXr.out)
        have HB5 := hid (HBr.out.trans (hb5.mono HBr.out.size))
        have hlo : ∀ r, (Value.slice oa Q ok).ownBlock = some r → w.heap.size ≤ r := fun r hr => (HRr.out.lt r hr).1
        have HLO := hid hlo
        have hnb : (Value.slice oa Q ok).ownBlock ≠ some bx := fun e => by
          rcases HRr.out.2 with ⟨h1, _⟩ | ⟨g, cap, cur, h1, _, hgb, _⟩
          · cases h1; simp [Value.ownBlock] at e
          · cases h1
            have : g = bx := by simpa [Value.ownBlock] using e
            subst this
            rw [HXr.out] at hgb; cases hgb
        have HNB := hid hnb
        clear hrow5 hb5 hh5 hg5 e0 e1 e2 e3 c3 hlo hnb HIX
        go_wp2_with (at_builtin; refine wpList_append_own_at _ (o := ⟨some 27, _, _, _, _, _⟩) rfl (.tmp 18) (.tmp 26) 43 rfl w.heap.size 48 i0 (.agg #[.int .i64 0, .int .i64 0, .int .i64 0, .string ⟨#[]⟩, .slice none 0 0]) 5 64 Try.underlying43 hi'.out hz0'.out hz1'.out hz2'.out rfl (by decide) (.slice oa Q ok) Q _ rfl HROW5.out ⟨g5, 0, none⟩ N5 cap5 news rfl HR5.out HNEWS.out HO5.out (by unfold maxLen; omega) (by omega) hs5 ?_; intro v7 w7 hown7 hgrow7 hnil7 hat7; have HO7 := hid hown7; have HG7 := hid hgrow7; clear hown7 hgrow7 hnil7 hat7)
        have HX7 := hid ((HG7.out.block bx (lt_of_heap HX5.out) (fun e => HNB.out e.symm)).trans HX5.out)
        have HB7 := hid (HB5.out.grown HG7.out hs5 (fun r hr => HLO.out r hr))
        have HR7 := hid (show w7.ownsRow w.heap.size 48 5 v7 ((d, Mv.mk k m s (some ⟨b, o, none⟩) c l) :: partsM (l.take (q + 1)) d).length (rowD ((d, Mv.mk k m s (some ⟨b, o, none⟩) c l) :: partsM (l.take (q + 1)) d)) by
          rw [HLEN.out, HRD.out]; exact HO7.out)
        go_roundw
        case rel => exact ⟨q + 1, by omega, by go_num, HR7, HB7, HX7⟩
        case measure => simp [intOf]; omega
      · obtain rfl : q = L := by omega
        have hall : l.take q = l := List.take_of_length_le (by rw [HL.out]; exact Nat.le_refl _)
        have hr := HRr.out
        rw [hQ, hall] at hr
        have hq2 := hQ
        rw [hall] at hq2
        have HR2 := hid hr
        have HQ2 := hid hq2
        clear hr hall HRr hQ hq2
        go_wp2
        go_ret
        exact ⟨_, rfl, by rw [← HQ2.out]; exact (by have h := HR2.out; rw [← HQ2.out] at h; exact h), HBr.out⟩
end Go.Proofs.Ytplckmoeaeabgaa
