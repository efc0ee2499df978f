/-
  Objrefs out of bytes: Decode.
-/
import Derived.Test.YtceeipejhmnkfaaObR
import Derived.Test.YtceeipejhmnkfaaEq
import Derived.Laws.CopyOwn
namespace Go.Proofs.Ytceeipejhmnkfaa
open Go Go.ChangeShapes Go.WideShapes Go.ChangeAt Go.RowKit

/-- What Decode answers. -/
def decO (b : List Int) : Orf × Int :=
  if b.length < 64 then (orZ, 6) else if 64 < b.length then (orZ, 5) else if rightO (rdO b) = true ∧ frmO (rdO b) = b then (rdO b, 0) else (orZ, 5)
set_option maxRecDepth 100000 in
theorem eqF (x y : List Int) (hx : x.length = 64) (hy : y.length = 64) (w : World) : (Op.equalIn 10000 107 (.agg (u8s x)) (.agg (u8s y))).run Try.prog w = .ok (x == y) w :=
  run_equalIn_u8s w 9998 107 5 64 Try.underlying107 Try.underlying5 szB x y hx hy
set_option maxRecDepth 100000 in
theorem guardF (op : BinOp) (a b : Operand) (xs ys : Array Value) (W : World) : (eqGuard op 107 a b (.agg xs) (.agg ys)).run Try.prog W = .ok () W := run_eqGuard_agg W op 107 a b xs ys (by kernel_rfl)
set_option maxRecDepth 100000 in
theorem dec_ret {Q : Ending → World → Prop} {a : Act} {W : World} {b : Nat} {u : Value} {x : Orf} (h2 : a.tmps.getD 2 undef = .pointer (some ⟨b, 0, none⟩)) (h3 : a.tmps.getD 3 undef = u) (hd : a.defers = [])
    (h : InO W b x) (hx : OrfOk x) (hq : Q (.returned (.tuple #[.agg (orA x), u])) W) : bodyPost Try.prog Try.f83 Q Exit.ret a W := by
  refine bodyPost_ret (v := .tuple #[.agg (orA x), u]) ?_ hd hq
  rw [results_cell_tmp (fn := Try.f83) (p := 2) (q := 3) rfl a.tmps W b 58 (orA x) (0, 0) _ h2 h Try.underlying58 rfl (infoO hx), h3]
def DecPost (w : World) (b : List Int) (e : Ending) (w' : World) : Prop := e = .returned (.tuple #[.agg (orA (decO b).1), .int .i64 (decO b).2]) ∧ Below w.heap.size w w'
set_option maxRecDepth 100000 in
set_option maxHeartbeats 2000000 in
theorem Decode_any (w : World) (ad : Option Addr) (cap n : Nat) (b : List Int) (hb : Bs w w.heap.size ad b) (hn : n = b.length) (hby : Byt b) (hl : n ≤ 9223372036854775807) : Calls Try.prog 83 #[.slice ad n cap] w (DecPost w b) := by
  obtain ⟨w1, hw1⟩ : ∃ w1, w1 = w.alloc (.cells (orA orZ) 58) := ⟨_, rfl⟩
  have hz : InO w1 w.heap.size orZ := by rw [hw1]; exact heap_alloc_new _ _
  have hB : Below w.heap.size w w1 := by rw [hw1]; exact (Below.refl _ _).alloc (Nat.le_refl _) _
  have hs1 : w1.heap.size = w.heap.size + 1 := by rw [hw1]; simp
  have HZ := hid hz
  have HB := hid hB
  have HW1 := hid hw1
  have HIZ := hid (infoO orZ_ok)
  clear hz hB hw1
  by_cases h1 : n < 64
  · have hd : decide ((n : Int) < 64) = true := by simp; omega
    have HE : RowKit.Hid (decO b = (orZ, 6)) := hid (by unfold decO; rw [if_pos (by omega)])
    unfold DecPost
    rw [HE.out]
    clear HE hb hn hby hl
    go_enter Try.func83, Try.ntmps83
    go_upto_region 1 with (fail)
    change Code.wp _ _ _ _ (w.alloc (.cells (orA orZ) 58))
    rw [← HW1.out]
    clear HW1
    go_wp2_with (first | ((with_reducible refine at_op ⟨none, .store 58 (.tmp 2) (.tmp 9), _, _, _, _⟩ ?_); refine wpList_store_row rfl 58 _ _ rfl w.heap.size (orA orZ) rfl rfl 58 (orA orZ) HZ.out HIZ.out rfl (orA_one _) ?_))
    refine dec_ret rfl rfl rfl (setRow_heap _ _ _ _ _ _ HZ.out) orZ_ok ⟨rfl, below_setRow HB.out _ _ (Nat.le_refl _)⟩
  · have hd : decide ((n : Int) < 64) = false := by simp; omega
    by_cases h2 : 64 < n
    · have hd2 : decide ((64 : Int) < n) = true := by simp; omega
      have HE : RowKit.Hid (decO b = (orZ, 5)) := hid (by unfold decO; rw [if_neg (by omega), if_pos (by omega)])
      unfold DecPost
      rw [HE.out]
      clear HE hb hn hby hl
      go_enter Try.func83, Try.ntmps83
      go_upto_region 1 with (fail)
      change Code.wp _ _ _ _ (w.alloc (.cells (orA orZ) 58))
      rw [← HW1.out]
      clear HW1
      go_wp2_with (first | ((with_reducible refine at_op ⟨none, .store 58 (.tmp 2) (.tmp 13), _, _, _, _⟩ ?_); refine wpList_store_row rfl 58 _ _ rfl w.heap.size (orA orZ) rfl rfl 58 (orA orZ) HZ.out HIZ.out rfl (orA_one _) ?_))
      refine dec_ret rfl rfl rfl (setRow_heap _ _ _ _ _ _ HZ.out) orZ_ok ⟨rfl, below_setRow HB.out _ _ (Nat.le_refl _)⟩
    · obtain rfl : n = 64 := by omega
      have h64 : b.length = 64 := hn.symm
      obtain ⟨bb, oo, rfl, hbb⟩ := hb.some (by omega)
      obtain ⟨w2, hw2⟩ : ∃ w2, w2 = w1.alloc (.cells (u8s (List.replicate 64 0)) 107) := ⟨_, rfl⟩
      have hb2 : Bs w2 w.heap.size (some ⟨bb, oo, none⟩) b := by
        refine (hb.below HB.out).below ?_
        rw [hw2]; exact ((Below.refl _ _).alloc (by omega) _)
      have hz2 : InO w2 w.heap.size orZ := by rw [hw2]; exact HZ.out.below ((Below.refl _ _).alloc (Nat.le_refl _) _)
      have hf2 : w2.heap[w1.heap.size]? = some (.cells (u8s (List.replicate 64 0)) 107 (0, 0)) := by rw [hw2]; exact heap_alloc_new _ _
      have hB2 : Below w.heap.size w w2 := by rw [hw2]; exact HB.out.alloc HB.out.size _
      rw [hs1] at hf2
      have HX := hid (rdO_ok hby (by omega))
      have HE : RowKit.Hid (decO b = if rightO (rdO b) = true ∧ frmO (rdO b) = b then (rdO b, 0) else (orZ, 5)) := hid (by unfold decO; rw [if_neg (by omega), if_neg (by omega)])
      have HBY := hid hby
      have H64 := hid h64
      have HN2 := hid hb2.news
      have HZ2 := hid hz2
      have HF2 := hid hf2
      have HB2 := hid hB2
      have HW2 := hid hw2
      have hsz := hid hs1
      clear hb hn hby hl h1 h2 hd h64 hw2 hb2 hz2 hf2 hB2 hs1
      go_enter Try.func83, Try.ntmps83
      go_upto_region 6 with (fail)
      change Code.wp _ _ _ _ ((w.alloc (.cells (orA orZ) 58)).alloc (.cells (u8s (List.replicate 64 0)) 107))
      rw [← HW1.out, ← HW2.out]
      have hcl : (u8l b).length = 64 := by rw [u8l_len, H64.out]
      have hrow : (List.take 0 (u8s (List.replicate 64 0)).toList ++ (u8l b ++ List.drop (0 + (u8l b).length) (u8s (List.replicate 64 0)).toList)).toArray = u8s b := by
        rw [hcl, List.drop_of_length_le (by simp [u8s])]
        simp [u8s, u8l]
      have HCL := hid hcl
      have HROW := hid hrow
      clear hcl hrow
      go_upto_region 7 with ((with_reducible refine at_op ⟨some 16, _, _, _, _, _⟩ ?_); (refine wpList_copy_own rfl (.tmp 14) (.tmp 15) 30 30 rfl 5 Try.underlying30 (by kernel_rfl) (w.heap.size + 1) 0 64 64 ⟨bb, oo, none⟩ 64 cap rfl rfl (u8s (List.replicate 64 0)) 107 HF2.out (u8l b) (by rw [HCL.out]; rfl) HN2.out (by rw [HCL.out]; simp [u8s_size]) (u8l_one b) ?_; rw [HROW.out, HCL.out]))
      obtain ⟨w3, hw3⟩ : ∃ w3, w3 = w2.setRow (w.heap.size + 1) (u8s b) := ⟨_, rfl⟩
      have hf3 : w3.heap[w.heap.size + 1]? = some (.cells (u8s b) 107 (0, 0)) := by rw [hw3]; exact setRow_heap _ _ _ _ _ _ HF2.out
      have hz3 : InO w3 w.heap.size orZ := by unfold InO; rw [hw3, setRow_other _ _ _ _ (by omega)]; exact HZ2.out
      have hB3 : Below w.heap.size w w3 := by rw [hw3]; exact below_setRow HB2.out _ _ (by omega)
      rw [← hw3]
      have HIF : RowKit.Hid ((Try.prog.info? 107).map (·.size) = some (u8s b).size) := hid (by rw [u8s_size, H64.out]; exact szForm)
      have HF3 := hid hf3
      have HZ3 := hid hz3
      have HB3 := hid hB3
      clear hw3 hf3 hz3 hB3 HF2 HZ2 HB2 HW1 HW2 HCL HROW HN2 HZ HB
      go_wp2_with (first | ((with_reducible refine at_op ⟨some 17, _, _, _, _, _⟩ ?_); refine wpList_load_row rfl 107 _ rfl (w.heap.size + 1) rfl 107 (u8s b) (0, 0) _ HF3.out Try.underlying107 rfl HIF.out ?_) | fail)
      refine (read_any b HBY.out H64.out w3).mono ?_
      rintro e w4 ⟨rfl, hb4⟩
      obtain ⟨x, hx⟩ : ∃ x, x = rdO b := ⟨_, rfl⟩
      rw [← hx] at HX HE ⊢
      have HXE := hid hx
      have hK4 : Keeps w [(w.heap.size + 1, u8s b, 107), (w.heap.size, orA orZ, 58)] w4 := Keeps.call ⟨HB3.out, fun y hy => by
        simp at hy
        rcases hy with rfl | rfl
        · exact HF3.out
        · exact HZ3.out⟩ hb4
      have hK5 := hK4.box (orA orZ) (orA x) 58
      obtain ⟨R, hR⟩ : ∃ R, R = w4.heap.size := ⟨_, rfl⟩
      have hRl : w.heap.size + 1 < R := by rw [hR]; exact lt_of_heap (hK4.2 (w.heap.size + 1, u8s b, 107) (by simp))
      have hN := heap_alloc_new w4 (.cells (orA orZ) 58)
      have HIX := hid (infoO HX.out)
      have hsz2 : (orA orZ).size = (orA x).size := by rw [orA_size HX.out, orA_size orZ_ok]
      have HN := hid hN
      have HS2 := hid hsz2
      have HK5 := hid hK5
      have HLY := hid (fun W => lay_form x HX.out W)
      have hq := eqF (frmO x) b (frmO_len HX.out) H64.out
      have hg := guardF
      have HCK := hid (fun W => Check_any x W)
      have HEE : RowKit.Hid (errO x = if rightO x then 0 else 5) := rfl
      clear hx hb4 hK4 hK5 hN hsz2
      cases hr : rightO x with
      | false =>
        have he : errO x = 5 := by rw [HEE.out, hr]; rfl
        rw [he] at HCK
        have HE2 : RowKit.Hid (decO b = (orZ, 5)) := hid (by rw [HE.out, hr]; simp)
        clear HE HEE hr he HLY hq
        go_upto_region 8 with (first | ((with_reducible refine at_op ⟨none, .store 58 (.tmp 5) (.tmp 18), _, _, _, _⟩ ?_); refine wpList_store_row rfl 58 _ _ rfl w4.heap.size (orA x) rfl rfl 58 (orA orZ) HN.out HIX.out HS2.out (orA_one _) ?_))
        refine wp_region_sure (Keeps w [(R, orA x, 58), (w.heap.size + 1, u8s b, 107), (w.heap.size, orA orZ, 58)]) (by kernel_rfl) (by kernel_rfl) (by rw [hR]; exact HK5.out.drew) ?_
        rw [← hR]
        clear HK5 HN HS2 hR
        repeat (first
          | (refine wpSure_not rfl ?_; simp only [Act.put, List.setIfInBounds_toArray, List.set_cons_zero, List.set_cons_succ]) | ((with_reducible refine atS ⟨_, .load 58 (.tmp 5), _, _, _, _⟩ ?_); refine wpSure_row 58 _ rfl R rfl (orA x) rfl 58 (0, 0) _ (fun W hS => hS.2 (R, orA x, 58) (by simp)) Try.underlying58 rfl HIX.out ?_; simp only [Act.put, List.setIfInBounds_toArray, List.set_cons_zero, List.set_cons_succ]) | ((with_reducible refine atS ⟨_, .load 107 (.tmp 4), _, _, _, _⟩ ?_); refine wpSure_row 107 _ rfl (w.heap.size + 1) rfl (u8s b) rfl 107 (0, 0) _ (fun W hS => hS.2 (w.heap.size + 1, u8s b, 107) (by simp)) Try.underlying107 rfl HIF.out ?_; simp only [Act.put, List.setIfInBounds_toArray, List.set_cons_zero, List.set_cons_succ]) | ((with_reducible refine atS ⟨_, .call ⟨.value (.func 60), _, _⟩, _, _, _, _⟩ ?_); refine wpSure_call _ _ _ rfl ?_ (fun W hS => hS.calls (HCK.out W)) ?_; (solve | (intro W; go_simp)); simp only [Act.put, List.setIfInBounds_toArray, List.set_cons_zero, List.set_cons_succ]) | ((with_reducible refine atS ⟨_, .call ⟨.value (.func 80), _, _⟩, _, _, _, _⟩ ?_); refine wpSure_call _ _ _ rfl ?_ (fun W hS => hS.calls (HLY.out W)) ?_; (solve | (intro W; go_simp)); simp only [Act.put, List.setIfInBounds_toArray, List.set_cons_zero, List.set_cons_succ]) | (refine' wpSure_value _ rfl _ _; rotate_left; (solve | (intro W; go_simp) | (intro W; go_simp; with_reducible rfl)); simp only [Act.put, List.setIfInBounds_toArray, List.set_cons_zero, List.set_cons_succ]))
        refine wpSure_end (fun w6 hS => ?_)
        have hz6 : InO w6 w.heap.size orZ := hS.2 (w.heap.size, orA orZ, 58) (by simp)
        have HZ6 := hid hz6
        have HB6 := hid hS.1
        clear hS hz6
        go_wp2_with (first | ((with_reducible refine at_op ⟨none, .store 58 (.tmp 2) (.tmp 28), _, _, _, _⟩ ?_); refine wpList_store_row rfl 58 _ _ rfl w.heap.size (orA orZ) rfl rfl 58 (orA orZ) HZ6.out HIZ.out rfl (orA_one _) ?_))
        refine dec_ret (u := .int .i64 5) rfl rfl rfl (setRow_heap _ _ _ _ _ _ HZ6.out) orZ_ok ⟨by rw [HE2.out], below_setRow HB6.out _ _ (Nat.le_refl _)⟩
      | true =>
        have he : errO x = 0 := by rw [HEE.out, hr]; rfl
        rw [he] at HCK
        by_cases hfb : frmO x = b
        · have hbq : (frmO x == b) = true := by simpa using hfb
          rw [hbq] at hq
          have HE2 : RowKit.Hid (decO b = (x, 0)) := hid (by rw [HE.out, hr]; simp [hfb])
          clear HE HEE hr he hfb hbq
          go_upto_region 8 with (first | ((with_reducible refine at_op ⟨none, .store 58 (.tmp 5) (.tmp 18), _, _, _, _⟩ ?_); refine wpList_store_row rfl 58 _ _ rfl w4.heap.size (orA x) rfl rfl 58 (orA orZ) HN.out HIX.out HS2.out (orA_one _) ?_))
          refine wp_region_sure (Keeps w [(R, orA x, 58), (w.heap.size + 1, u8s b, 107), (w.heap.size, orA orZ, 58)]) (by kernel_rfl) (by kernel_rfl) (by rw [hR]; exact HK5.out.drew) ?_
          rw [← hR]
          clear HK5 HN HS2 hR
          repeat (first
            | (refine wpSure_not rfl ?_; simp only [Act.put, List.setIfInBounds_toArray, List.set_cons_zero, List.set_cons_succ]) | ((with_reducible refine atS ⟨_, .load 58 (.tmp 5), _, _, _, _⟩ ?_); refine wpSure_row 58 _ rfl R rfl (orA x) rfl 58 (0, 0) _ (fun W hS => hS.2 (R, orA x, 58) (by simp)) Try.underlying58 rfl HIX.out ?_; simp only [Act.put, List.setIfInBounds_toArray, List.set_cons_zero, List.set_cons_succ]) | ((with_reducible refine atS ⟨_, .load 107 (.tmp 4), _, _, _, _⟩ ?_); refine wpSure_row 107 _ rfl (w.heap.size + 1) rfl (u8s b) rfl 107 (0, 0) _ (fun W hS => hS.2 (w.heap.size + 1, u8s b, 107) (by simp)) Try.underlying107 rfl HIF.out ?_; simp only [Act.put, List.setIfInBounds_toArray, List.set_cons_zero, List.set_cons_succ]) | ((with_reducible refine atS ⟨_, .call ⟨.value (.func 60), _, _⟩, _, _, _, _⟩ ?_); refine wpSure_call _ _ _ rfl ?_ (fun W hS => hS.calls (HCK.out W)) ?_; (solve | (intro W; go_simp)); simp only [Act.put, List.setIfInBounds_toArray, List.set_cons_zero, List.set_cons_succ]) | ((with_reducible refine atS ⟨_, .call ⟨.value (.func 80), _, _⟩, _, _, _, _⟩ ?_); refine wpSure_call _ _ _ rfl ?_ (fun W hS => hS.calls (HLY.out W)) ?_; (solve | (intro W; go_simp)); simp only [Act.put, List.setIfInBounds_toArray, List.set_cons_zero, List.set_cons_succ]) | (refine' wpSure_value _ rfl _ _; rotate_left; (solve | (intro W; go_simp) | (intro W; go_simp; with_reducible rfl)); simp only [Act.put, List.setIfInBounds_toArray, List.set_cons_zero, List.set_cons_succ]))
          refine wpSure_end (fun w6 hS => ?_)
          have hz6 : InO w6 w.heap.size orZ := hS.2 (w.heap.size, orA orZ, 58) (by simp)
          have hx6 : InO w6 R x := hS.2 (R, orA x, 58) (by simp)
          have hso : (orA orZ).size = (orA x).size := by rw [orA_size HX.out, orA_size orZ_ok]
          have HSO := hid hso
          have HZ6 := hid hz6
          have HX6 := hid hx6
          have HB6 := hid hS.1
          clear hS hz6 hx6 hso hq
          go_wp2_with (first
            | ((with_reducible refine at_op ⟨some 29, _, _, _, _, _⟩ ?_); refine wpList_load_row rfl 58 _ rfl R rfl 58 (orA x) (0, 0) _ HX6.out Try.underlying58 rfl HIX.out ?_)
            | ((with_reducible refine at_op ⟨none, .store 58 (.tmp 2) (.tmp 29), _, _, _, _⟩ ?_); refine wpList_store_row rfl 58 _ _ rfl w.heap.size (orA x) rfl rfl 58 (orA orZ) HZ6.out HIX.out HSO.out (orA_one _) ?_))
          refine dec_ret (u := .int .i64 0) rfl rfl rfl (setRow_heap _ _ _ _ _ _ HZ6.out) HX.out ⟨by rw [HE2.out], below_setRow HB6.out _ _ (Nat.le_refl _)⟩
        · have hbq : (frmO x == b) = false := by simpa using hfb
          rw [hbq] at hq
          have HE2 : RowKit.Hid (decO b = (orZ, 5)) := hid (by rw [HE.out, hr]; simp [hfb])
          clear HE HEE hr he hfb hbq
          go_upto_region 8 with (first | ((with_reducible refine at_op ⟨none, .store 58 (.tmp 5) (.tmp 18), _, _, _, _⟩ ?_); refine wpList_store_row rfl 58 _ _ rfl w4.heap.size (orA x) rfl rfl 58 (orA orZ) HN.out HIX.out HS2.out (orA_one _) ?_))
          refine wp_region_sure (Keeps w [(R, orA x, 58), (w.heap.size + 1, u8s b, 107), (w.heap.size, orA orZ, 58)]) (by kernel_rfl) (by kernel_rfl) (by rw [hR]; exact HK5.out.drew) ?_
          rw [← hR]
          clear HK5 HN HS2 hR
          repeat (first
            | (refine wpSure_not rfl ?_; simp only [Act.put, List.setIfInBounds_toArray, List.set_cons_zero, List.set_cons_succ]) | ((with_reducible refine atS ⟨_, .load 58 (.tmp 5), _, _, _, _⟩ ?_); refine wpSure_row 58 _ rfl R rfl (orA x) rfl 58 (0, 0) _ (fun W hS => hS.2 (R, orA x, 58) (by simp)) Try.underlying58 rfl HIX.out ?_; simp only [Act.put, List.setIfInBounds_toArray, List.set_cons_zero, List.set_cons_succ]) | ((with_reducible refine atS ⟨_, .load 107 (.tmp 4), _, _, _, _⟩ ?_); refine wpSure_row 107 _ rfl (w.heap.size + 1) rfl (u8s b) rfl 107 (0, 0) _ (fun W hS => hS.2 (w.heap.size + 1, u8s b, 107) (by simp)) Try.underlying107 rfl HIF.out ?_; simp only [Act.put, List.setIfInBounds_toArray, List.set_cons_zero, List.set_cons_succ]) | ((with_reducible refine atS ⟨_, .call ⟨.value (.func 60), _, _⟩, _, _, _, _⟩ ?_); refine wpSure_call _ _ _ rfl ?_ (fun W hS => hS.calls (HCK.out W)) ?_; (solve | (intro W; go_simp)); simp only [Act.put, List.setIfInBounds_toArray, List.set_cons_zero, List.set_cons_succ]) | ((with_reducible refine atS ⟨_, .call ⟨.value (.func 80), _, _⟩, _, _, _, _⟩ ?_); refine wpSure_call _ _ _ rfl ?_ (fun W hS => hS.calls (HLY.out W)) ?_; (solve | (intro W; go_simp)); simp only [Act.put, List.setIfInBounds_toArray, List.set_cons_zero, List.set_cons_succ]) | (refine' wpSure_value _ rfl _ _; rotate_left; (solve | (intro W; go_simp) | (intro W; go_simp; with_reducible rfl)); simp only [Act.put, List.setIfInBounds_toArray, List.set_cons_zero, List.set_cons_succ]))
          refine wpSure_end (fun w6 hS => ?_)
          have hz6 : InO w6 w.heap.size orZ := hS.2 (w.heap.size, orA orZ, 58) (by simp)
          have HZ6 := hid hz6
          have HB6 := hid hS.1
          clear hS hz6 hq
          go_wp2_with (first | ((with_reducible refine at_op ⟨none, .store 58 (.tmp 2) (.tmp 28), _, _, _, _⟩ ?_); refine wpList_store_row rfl 58 _ _ rfl w.heap.size (orA orZ) rfl rfl 58 (orA orZ) HZ6.out HIZ.out rfl (orA_one _) ?_))
          refine dec_ret (u := .int .i64 5) rfl rfl rfl (setRow_heap _ _ _ _ _ _ HZ6.out) orZ_ok ⟨by rw [HE2.out], below_setRow HB6.out _ _ (Nat.le_refl _)⟩
end Go.Proofs.Ytceeipejhmnkfaa
