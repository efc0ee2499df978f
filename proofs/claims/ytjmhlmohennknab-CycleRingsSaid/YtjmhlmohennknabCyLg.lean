/-
  The walk of CycleRings.
-/
import Derived.Test.YtjmhlmohennknabCyRm
import Derived.Test.YtjmhlmohennknabPick
namespace Go.Proofs.Ytjmhlmohennknab
open Go Go.ChangeShapes Go.WideShapes Go.ChangeAt Go.RowKit

theorem exec_remN {o : Oper} {f : Operand → Value} {W : World} {p q : Operand} {x n : Nat} (ho : o.op = .binOp .rem 3 p q 3) (hp : f p = .int .i64 ((x : Int) + 1)) (hq : f q = .int .i64 n) (hn : 0 < n) (hx : x < 1000) (hn2 : n < 1000) :
    (execOp f o).run Try.prog W = .ok (.value (.int .i64 (((x + 1) % n : Nat) : Int))) W := by
  have hw : IntKind.i64.wrap (((x : Int) + 1).tmod n) = (((x + 1) % n : Nat) : Int) := by
    have h1 : ((x : Int) + 1).tmod n = (((x + 1) % n : Nat) : Int) := by rw [Int.tmod_eq_emod_of_nonneg (by omega), Int.natCast_emod]; rfl
    have := Nat.mod_lt (x + 1) hn
    rw [h1, IntWalk.i64_in _ ⟨by omega, by omega⟩]
  have hn0 : ¬ n = 0 := by omega
  unfold execOp
  simp only [ho, hp, hq]
  go_simp
  rw [Int.tmod_eq_emod_of_nonneg (by omega)]
theorem exec_addN {o : Oper} {f : Operand → Value} {W : World} {p q : Operand} {x n : Nat} (ho : o.op = .binOp .add 3 p q 3) (hp : f p = .int .i64 x) (hq : f q = .int .i64 n) (hx : x < 1000) (hn2 : n < 1000) :
    (execOp f o).run Try.prog W = .ok (.value (.int .i64 ((x + n : Nat) : Int))) W := by
  have hw : IntKind.i64.wrap ((x : Int) + n) = (x : Int) + n := IntWalk.i64_in _ ⟨by omega, by omega⟩
  unfold execOp
  simp only [ho, hp, hq]
  go_simp
theorem exec_one {o : Oper} {f : Operand → Value} {W : World} {p : Operand} {v : Value} (ho : o.op = .buildSlice 26 1 #[(0, p)]) (hp : f p = v) (h1 : ∃ x, v = .int .i64 x) :
    (execOp f o).run Try.prog W = .ok (.value (.slice (some ⟨W.heap.size, 0, none⟩) 1 1)) (W.alloc (.cells #[v] TI)) := by
  obtain ⟨x, rfl⟩ := h1
  unfold execOp
  simp only [ho]
  go_simp
theorem exec_oneL {o : Oper} {f : Operand → Value} {W : World} {p : Operand} {v : Value} (ho : o.op = .buildSlice 23 1 #[(0, p)]) (hp : f p = v) (h1 : ∃ a n c, v = .slice a n c) :
    (execOp f o).run Try.prog W = .ok (.value (.slice (some ⟨W.heap.size, 0, none⟩) 1 1)) (W.alloc (.cells #[v] TSI)) := by
  obtain ⟨a, n, c, rfl⟩ := h1
  unfold execOp
  simp only [ho]
  go_simp
theorem exec_append {o : Oper} {f : Operand → Value} {W w' : World} {s x : Operand} {t : TypeId} {v u v' : Value} (ho : o.op = .call { callee := .builtin .append, args := #[s, x], argTypes := #[t, t] }) (hs : f s = v) (hx : f x = u) (hr : (Builtin.append_ #[t, t] o.type #[v, u]).run Try.prog W = .ok v' w') : (execOp f o).run Try.prog W = .ok (.value v') w' := by
  unfold execOp
  simp only [ho, resolve, invoke, builtin, Sem.run_bind, Sem.run_pure, Result.andThen_ok, List.map_toArray, List.map_cons, List.map_nil, hs, hx, hr]
/-- append of one list, run. -/
theorem run_pushL {w : World} (ty : TypeId) (B : Nat) (v : Value) (xs : List Value) (y : Value) (hown : w.ownsRow B TSI 1 v xs.length xs) (g c : Nat) (hc : w.cell? ⟨g, 0, none⟩ = some y) (hy : y.oneCell' = true) (hl : xs.length ≤ 1000000) (hB : B ≤ w.heap.size) :
    ∃ v' w', (Builtin.append_ #[23, 23] ty #[v, .slice (some ⟨g, 0, none⟩) 1 c]).run Try.prog w = .ok v' w' ∧ w'.ownsRow B TSI 1 v' (xs ++ [y]).length (xs ++ [y]) ∧ w.grownBy w' v.ownBlock ∧ (v'.ownBlock = v.ownBlock ∨ v'.ownBlock = some w.heap.size) := by
  obtain ⟨i, h1, h2, h3, h4⟩ := info_split infoSI
  have hml : (9223372036854775807 : Nat) = maxLen := rfl
  obtain ⟨v', w', r1, r2, r3, _, r5⟩ := run_append_own_at (P := Try.prog) w B 23 ty TSI i (.slice none 0 0) 1 24 Try.underlying23 h1 h2 h3 h4 rfl (by decide) v _ xs hown ⟨g, 0, none⟩ 1 c [y] rfl (fun j u hu => by
    cases j with
    | zero => simp at hu; subst hu; simpa [Addr.add] using hc
    | succ j => simp at hu) (by simpa using hy) (by omega) (by omega) hB
  exact ⟨v', w', r1, by rw [List.length_append]; exact r2, r3, r5⟩
theorem RgI.same {B : Nat} {W W' : World} {xb : Nat} {F : Nat → Nat} {cv ev sv av : Value} {xs : List Int} {vs : List Value} {ts su wa : List Nat} (h : RgI B W xb F cv ev sv av xs vs ts su wa) (hf : Fr (fun _ => False) W W') : RgI B W' xb F cv ev sv av xs vs ts su wa :=
  ⟨(hf.block _ (Array.getElem?_eq_some_iff.1 h.x).1 (fun e => e)).trans h.x, hf.owns h.c (fun _ _ e => e), hf.owns h.e (fun _ _ e => e), OwI.fr h.s hf (fun _ _ e => e), OwI.fr h.a hf (fun _ _ e => e), h.l, fun i v t h1 h2 => by
    obtain ⟨b, h3, h4, h5⟩ := h.r i v t h1 h2
    exact ⟨b, h3, (hf.block _ (Array.getElem?_eq_some_iff.1 h4).1 (fun e => e)).trans h4, h5⟩, h.lx, h.lc, h.le, h.ls, h.la, h.b0⟩
theorem totE_one (l : List Nat) : totE (l.map fun t : Nat => [(t : Int)]) = l.length := by
  induction l with
  | nil => rfl
  | cons x l ih =>
    unfold totE at ih ⊢
    simp only [List.map_cons, List.sum_cons, List.length_cons, List.length_nil] at ih ⊢
    omega
theorem wi_len_le (n : Nat) (l : List Int) : (wi n l).length ≤ l.length := by
  unfold wi
  rw [List.length_map]
  exact List.length_filter_le _ _
theorem suL_len {nz : Nat → Nat} (r : Nat) : (suL nz r).length = r := by
  induction r with
  | zero => rfl
  | succ r ih => unfold suL; rw [List.length_append, ih]; rfl
/-- The rings' sizes. -/
def szR (zs : List Int) (i : Nat) : Nat := 1 + (zs.getD i 0 % 9).toNat
theorem szR_bd (zs : List Int) (i : Nat) : 1 ≤ szR zs i ∧ szR zs i ≤ 9 := by
  have h1 := Int.emod_nonneg (zs.getD i 0) (show (9 : Int) ≠ 0 by decide)
  have h2 := Int.emod_lt_of_pos (zs.getD i 0) (show (0 : Int) < 9 by decide)
  unfold szR
  omega
theorem frm_bd {nz : Nat → Nat} (h : ∀ i, nz i ≤ 9) (r : Nat) : frm nz r ≤ 9 * r := by
  induction r with
  | zero => exact Nat.le_refl _
  | succ r ih => have := h r; show frm nz r + nz r ≤ _; omega
set_option maxRecDepth 100000 in
set_option maxHeartbeats 16000000 in
theorem CycleRings_any (w : World) (zv : Value) (zs : List Int) (a : Int) (hZ : Tl (Value.int .u8) w.heap.size w zv zs) (hZb : ∀ x ∈ zs, 0 ≤ x ∧ x ≤ 255) (ha : -9223372036854775808 ≤ a ∧ a ≤ 9223372036854775807) :
    Calls Try.prog 6 #[zv, .int .i64 a] w fun e w' => e = .returned (.bool true) ∧ Below w.heap.size w w' := by
  obtain ⟨za, zc, rfl, hzc1, hzc2, hZx⟩ := hZ.ex
  obtain ⟨ns, hns⟩ : ∃ ns, ns = zs.length := ⟨_, rfl⟩
  rw [← hns] at hzc1 hZx ⊢
  have HNS := hid hns
  have HZX := hid hZx
  have HZB := hid hZb
  have HA0 := hid ha
  clear hZ hZx hZb hns ha
  by_cases hbig : 20 < ns
  · have HA := hid (awake_any w)
    go_enter Try.func6, Try.ntmps6
    go_wp2_with fail
    refine HA.out.mono ?_
    rintro e w3 ⟨rfl, hb3⟩
    have HB3 := hid hb3
    clear hb3 HA
    go_wp2_with fail
    go_ret
    exact ⟨rfl, HB3.out⟩
  obtain ⟨K, hK⟩ : ∃ K, K = (a % 21).toNat := ⟨_, rfl⟩
  have hKa : (a % 21) = (K : Int) := by rw [hK]; exact (Int.toNat_of_nonneg (Int.emod_nonneg a (by decide))).symm
  have HKA := hid hKa
  obtain ⟨nz, hnz⟩ : ∃ nz, nz = szR zs := ⟨_, rfl⟩
  have HNZ := hid hnz
  have HZ1 := hid (show ∀ i, 1 ≤ nz i from fun i => by rw [hnz]; exact (szR_bd zs i).1)
  have HZ9 := hid (show ∀ i, nz i ≤ 9 from fun i => by rw [hnz]; exact (szR_bd zs i).2)
  obtain ⟨w1, hw1⟩ : ∃ w1, w1 = w.alloc (.cells #[.slice none 0 0, .slice none 0 0] TGr) := ⟨_, rfl⟩
  have hx1 := heap_alloc_new w (.cells #[.slice none 0 0, .slice none 0 0] TGr)
  have hb1 : Below w.heap.size w w1 := by rw [hw1]; exact (Below.refl _ _).alloc (Nat.le_refl _) _
  rw [← hw1] at hx1
  obtain ⟨xb, hxb⟩ : ∃ xb, xb = w.heap.size := ⟨_, rfl⟩
  have hI1 : RgI w.heap.size w1 xb (fun _ => 1) (.slice none 0 0) (.slice none 0 0) (.slice none 0 0) (.slice none 0 0) (csL nz K 0) [] (esL nz 0) (suL nz 0) (waL nz K 0) :=
    ⟨by rw [hxb]; exact hx1, World.ownsRow_nil _ _ _ _, World.ownsRow_nil _ _ _ _, World.ownsRow_nil _ _ _ _, World.ownsRow_nil _ _ _ _, rfl, fun i v t h _ => by simp at h, rfl, fun k hk => by simp [Value.ownBlock] at hk, fun k hk => by simp [Value.ownBlock] at hk, fun k hk => by simp [Value.ownBlock] at hk, fun k hk => by simp [Value.ownBlock] at hk, by omega⟩
  have HI1 := hid hI1
  have HB1 := hid hb1
  have HW1 := hid hw1
  have HXBE := hid hxb
  clear hK hKa hnz hw1 hx1 hb1 hxb hI1
  go_enter Try.func6, Try.ntmps6
  go_upto_region 4 with fail
  rw [← HW1.out, ← HXBE.out]
  clear HW1 HXBE
  go_wp2_with fail
  rw [show decide (20 < (ns : Int)) = false from decide_eq_false (by omega)]
  go_loopw [8, 6, 7] (fun i sv av wr => ∃ (r : Nat) (F : Nat → Nat) (cv ev : Value) (vs : List Value), r ≤ ns ∧ i = .int .i64 r ∧ RowKit.Hid (RgI w.heap.size wr xb F cv ev sv av (csL nz K r) vs (esL nz r) (suL nz r) (waL nz K r)) ∧ RowKit.Hid (Below w.heap.size w wr)) (fun i _ _ _ => ns - (intOf i).toNat)
  case atStart => exact ⟨0, _, _, _, _, by omega, rfl, HI1, HB1⟩
  case round =>
    obtain ⟨r, F, cv, ev, vs, hr, rfl, HR, HB⟩ := hrel
    by_cases hrn : r < ns
    · have hlt : r < zs.length := by rw [← HNS.out]; exact hrn
      have hx : zs[r]? = some zs[r] := List.getElem?_eq_getElem hlt
      obtain ⟨z, hz⟩ : ∃ z, z = zs[r] := ⟨_, rfl⟩
      rw [← hz] at hx
      have hzb := HZB.out z (List.mem_of_getElem? hx)
      obtain ⟨b, o, rfl, hb, hcell⟩ := HZX.out (by omega)
      have cz : wr.cell? ⟨b, o + r, none⟩ = some (.int .u8 z) := (World.cell?_of_block (w := w) (w' := wr) (a := ⟨b, o + r, none⟩) (HB.out.block b hb)).trans (hcell r z hx)
      obtain ⟨n, hn⟩ : ∃ n, n = nz r := ⟨_, rfl⟩
      have hn9 : 1 + z % 9 = (n : Int) := by
        rw [hn, HNZ.out]
        unfold szR
        rw [List.getD_eq_getElem?_getD, hx]
        have h1 := Int.emod_nonneg z (show (9 : Int) ≠ 0 by decide)
        simp
        omega
      have HN9 := hid hn9
      have hnb : 1 ≤ n ∧ n ≤ 9 := by rw [hn]; exact ⟨HZ1.out r, HZ9.out r⟩
      have HNR := hid hn
      obtain ⟨zy, rfl⟩ := Int.eq_ofNat_of_zero_le hzb.1
      obtain ⟨fr, hfr⟩ : ∃ fr, fr = frm nz r := ⟨_, rfl⟩
      have hfrb : fr ≤ 180 := by rw [hfr]; have := frm_bd HZ9.out r; omega
      have HFR := hid hfr
      have c0 := HR.out.x0
      obtain ⟨va, vc, hva⟩ := own_form HR.out.c
      subst hva
      rw [csL_len, ← hfr] at c0
      have HPK := hid (Pick_any a 21 wr HA0.out (by decide) (by decide))
      clear hx hz hzb hb hcell hlt hn hn9 hfr
      go_upto_region 9 with fail
      rw [HN9.out]
      clear cz
      go_wp2_with fail
      refine HPK.out.mono ?_
      rintro e w' ⟨rfl, rfl⟩
      clear HPK
      obtain ⟨kp, hkp⟩ : ∃ kp, kp = decide (r = K) := ⟨_, rfl⟩
      have hke : ((r : Int) == (K : Int)) = kp := by
        rw [hkp, Bool.eq_iff_iff]
        simp
        omega
      have HKP := hid hkp
      have HKE := hid hke
      clear hkp hke
      go_upto_region 11 with fail
      rw [HKA.out, HKE.out]
      clear HKE
      cases kp with
      | true =>
        go_wp2_with fail
        clear c0
        go_loopw [12, 7] (fun i av wr => ∃ (k : Nat) (F : Nat → Nat) (cv ev : Value) (vs : List Value), k ≤ n ∧ i = .int .i64 k ∧ RowKit.Hid (RgI w.heap.size wr xb F cv ev u6 av (csL nz K r ++ fL k (fun _ => 1)) vs (esL nz r ++ fL k (rgE nz r)) (suL nz r) (waL nz K r ++ [])) ∧ RowKit.Hid (Below w.heap.size w wr)) (fun i _ _ => n - (intOf i).toNat)
        case atStart => exact ⟨0, F, _, _, vs, by omega, rfl, hid (by simpa [fL] using HR.out), HB⟩
        case round =>
          obtain ⟨k, F, cv, ev, vs, hk, rfl, HR, HB⟩ := hrel
          by_cases hkn : k < n
          · have c0 := HR.out.x0
            obtain ⟨va, vc, hva⟩ := own_form HR.out.c
            subst hva
            have hcl : (csL nz K r ++ fL k (fun _ => (1 : Int))).length = fr + k := by rw [List.length_append, csL_len, fL_len, HFR.out]
            rw [hcl] at c0
            have HCL := hid hcl
            have hbb := HB.out.size
            have HL5 := hid (show (csL nz K r ++ fL k (fun _ => (1 : Int)) ++ [1]).length = fr + (k + 1) by rw [List.length_append, HCL.out]; rfl)
            have HC := hid (show wr.ownsRow w.heap.size TU32 1 (.slice va (fr + k) vc) (csL nz K r ++ fL k (fun _ => (1 : Int))).length ((csL nz K r ++ fL k (fun _ => (1 : Int))).map cU) by have h := HR.out.c; rw [hcl] at h ⊢; exact h)
            have HRI := hid (show RgI w.heap.size wr xb F (.slice va (fr + k) vc) ev u6 _ (csL nz K r ++ fL k (fun _ => 1)) vs (esL nz r ++ fL k (rgE nz r)) (suL nz r) _ by have h := HR.out; rw [hcl] at h; exact h)
            clear hcl HR
            go_upto_region 15 with (first
              | (at_builtin; go_loud (refine wpList_pushC (o := ⟨some 45, _, _, _, _, _⟩) rfl (.tmp 43) (.tmp 44) rfl w.heap.size (.slice va (fr + k) vc) (csL nz K r ++ fL k (fun _ => (1 : Int))) 1 rfl (World.ownsRow.alloc HC.out _) wr.heap.size 1 rfl (by rw [cell_of_row _ _ 0 _ _ _ (heap_alloc_new wr _)]; rfl) (by rw [HCL.out]; omega) (by simp; omega) ?_); intro v5 w9 k1 k2 k3; have hgr := HRI.out.growC k1 k2 k3; have HGR := hid hgr.2; rw [HL5.out] at k1; have c0' := cell_of_row w9 xb 0 _ _ _ hgr.1; have z0' := frozen_of_row w9 xb 0 _ _ hgr.1; obtain ⟨v5a, v5c, rfl⟩ := own_form k1; simp only [List.getElem?_toArray, List.getElem?_cons_zero] at c0'; clear k1 k2 k3 hgr)
              | fail)
            obtain ⟨hR5, hb5⟩ := HGR.out
            rw [List.append_assoc, show fL k (fun _ => (1 : Int)) ++ [1] = fL (k + 1) (fun _ => 1) from (fL_succ k _).symm] at hR5
            obtain ⟨wy, hwy⟩ : ∃ wy, wy = w9.setCell ⟨xb, 0, none⟩ (.slice v5a (fr + (k + 1)) v5c) := ⟨_, rfl⟩
            rw [← hwy] at hR5 hb5 ⊢
            have hB5 := HB.out.trans hb5
            obtain ⟨F5, hF5⟩ : ∃ F5, F5 = nlab F wr.heap.size 2 := ⟨_, rfl⟩
            rw [← hF5] at hR5
            obtain ⟨ea, ec, hea⟩ := own_form hR5.e
            subst hea
            have hvl : vs.length = fr + k := by rw [hR5.l, List.length_append, esL_len, fL_len, HFR.out]
            have x1 := hR5.x1
            rw [hvl] at x1
            have HVL := hid hvl
            have HR5 := hid hR5
            have HB5 := hid hB5
            have hw1 : IntKind.i64.wrap ((k : Int) + 1) = (k : Int) + 1 := IntWalk.i64_in _ ⟨by omega, by omega⟩
            have hmod : ((k : Int) + 1) % (n : Int) = (((k + 1) % n : Nat) : Int) := by rw [Int.natCast_emod]; rfl
            have hmlt : (k + 1) % n < n := Nat.mod_lt _ (by omega)
            clear hwy hR5 hb5 hF5 hvl c0' z0' HGR HRI HC c0 hB5 HR HB
            refine D.wp_region_mix [0, 1, 0, 0, 0, 0, 0, 0, 2, 2, 2, 0, 3] (fun W => W.cell? ⟨xb, 1, none⟩ = some (.slice ea (fr + k) ec)) (by kernel_rfl) (by kernel_rfl) x1 ?_
            repeat (first
              | (refine' C.wpMix_value _ rfl rfl _ _; rotate_left; (solve | (intro W; go_simp) | (intro W; go_simp; with_reducible rfl)); simp only [Act.put, List.setIfInBounds_toArray, List.set_cons_zero, List.set_cons_succ])
              | (refine' C.wpMix_read _ rfl rfl _ _; rotate_left; (solve | (rintro W hS; go_simp) | (rintro W hS; go_simp; with_reducible rfl)); simp only [Act.put, List.setIfInBounds_toArray, List.set_cons_zero, List.set_cons_succ]))
            refine C.wpMix_value _ rfl rfl (fun W => exec_remN rfl rfl rfl (by omega) (by omega) (by omega)) ?_
            simp only [Act.put, List.setIfInBounds_toArray, List.set_cons_zero, List.set_cons_succ]
            refine C.wpMix_value _ rfl rfl (fun W => exec_addN rfl rfl rfl (by omega) (by omega)) ?_
            simp only [Act.put, List.setIfInBounds_toArray, List.set_cons_zero, List.set_cons_succ]
            have hE : fr + (k + 1) % n = rgE nz r k := by unfold rgE; rw [HFR.out, HNR.out]
            rw [hE]
            obtain ⟨wd, hwd⟩ : ∃ wd, wd = wy.drew := ⟨_, rfl⟩
            rw [← hwd]
            have hfd : Fr (fun _ => False) wy wd := by rw [hwd]; exact (Fr.refl _ _).drew
            have hRd := HR5.out.same hfd
            have x1d := hRd.x1
            rw [HVL.out] at x1d
            have hxl := (Array.getElem?_eq_some_iff.1 hRd.x).1
            obtain ⟨w6, hw6⟩ : ∃ w6, w6 = wd.alloc (.cells #[nI (rgE nz r k)] TI) := ⟨_, rfl⟩
            have s6 : w6.heap.size = wd.heap.size + 1 := by rw [hw6]; simp
            obtain ⟨w7, hw7⟩ : ∃ w7, w7 = w6.alloc (.cells #[.slice (some ⟨wd.heap.size, 0, none⟩) 1 1] TSI) := ⟨_, rfl⟩
            have s7 : w7.heap.size = w6.heap.size + 1 := by rw [hw7]; simp
            have x1e : w6.cell? ⟨xb, 1, none⟩ = some (.slice ea (fr + k) ec) := by
              rw [hw6, World.cell?_of_block (w := wd) (w' := wd.alloc (.cells #[nI (rgE nz r k)] TI)) (a := ⟨xb, 1, none⟩) (by first | exact heap_alloc_old _ _ hxl | exact heap_alloc_old _ _ _ hxl)]; exact x1d
            have x1f : w7.cell? ⟨xb, 1, none⟩ = some (.slice ea (fr + k) ec) := by
              rw [hw7, World.cell?_of_block (w := w6) (w' := w6.alloc (.cells #[.slice (some ⟨wd.heap.size, 0, none⟩) 1 1] TSI)) (a := ⟨xb, 1, none⟩) (by first | exact heap_alloc_old _ _ (show xb < w6.heap.size by omega) | exact heap_alloc_old _ _ _ (show xb < w6.heap.size by omega))]; exact x1e
            have ho7 : w7.ownsRow w.heap.size TSI 1 (.slice ea (fr + k) ec) vs.length vs := by
              have h := hRd.e
              rw [HVL.out] at h ⊢
              rw [hw7, hw6]
              exact World.ownsRow.alloc (World.ownsRow.alloc h _) _
            obtain ⟨v8, w8, r1, r2, r3, r4⟩ := run_pushL 23 w.heap.size _ vs (.slice (some ⟨wd.heap.size, 0, none⟩) 1 1) ho7 w6.heap.size 1 (by rw [hw7, cell_of_row _ _ 0 _ _ _ (heap_alloc_new w6 _)]; rfl) rfl (by rw [HVL.out]; omega) (by have := HB5.out.size; have := hfd.size; omega)
            have hgE := hRd.growE (t := rgE nz r k) r2 (by rw [HVL.out, ← hw6, ← hw7]; exact r3) (by rw [HVL.out, ← hw6, ← hw7]; exact r4)
            have x1g := cell_of_row w8 xb 1 _ _ _ hgE.1
            have z1g := frozen_of_row w8 xb 1 _ _ hgE.1
            simp only [List.getElem?_toArray, List.getElem?_cons_succ, List.getElem?_cons_zero] at x1g
            obtain ⟨v8a, v8c, hv8⟩ := own_form r2
            have hlen8 : (vs ++ [Value.slice (some ⟨wd.heap.size, 0, none⟩) 1 1]).length = fr + k + 1 := by rw [List.length_append, HVL.out]; rfl
            rw [hlen8] at hv8
            subst hv8
            have HGE := hid hgE.2
            have HDS := hid hfd
            refine C.wpMix_write _ w6 (by decide) rfl (by rw [hw6]; exact exec_one rfl rfl ⟨_, rfl⟩) (fun _ => x1e) ?_
            simp only [Act.put, List.setIfInBounds_toArray, List.set_cons_zero, List.set_cons_succ]
            refine C.wpMix_write _ w7 (by decide) rfl (by rw [hw7]; exact exec_oneL rfl rfl ⟨_, _, _, rfl⟩) (fun _ => x1f) ?_
            simp only [Act.put, List.setIfInBounds_toArray, List.set_cons_zero, List.set_cons_succ]
            refine C.wpMix_write (.slice v8a (fr + k + 1) v8c) w8 (by decide) rfl (exec_append rfl rfl rfl r1) (fun _ => by rw [x1g, HVL.out]) ?_
            simp only [Act.put, List.setIfInBounds_toArray, List.set_cons_zero, List.set_cons_succ]
            clear x1d x1e x1f s6 s7 hxl ho7 r1 r2 r3 r4 hfd hRd hgE x1 hwd hw6 hw7 hE hmod hmlt hw1 hlen8
            refine C.wpMix_value (.pointer (some ⟨xb, 1, none⟩)) rfl rfl (fun W => by go_simp) ?_
            simp only [Act.put, List.setIfInBounds_toArray, List.set_cons_zero, List.set_cons_succ]
            refine C.wpMix_skip (w8.setCell ⟨xb, 1, none⟩ (.slice v8a (fr + k + 1) v8c)) (by decide) rfl (by go_simp) (fun h => by cases h) ?_
            simp only [Act.put]
            refine C.wpMix_end ?_
            obtain ⟨wf, hwf⟩ : ∃ wf, wf = w8.setCell ⟨xb, 1, none⟩ (.slice v8a (fr + k + 1) v8c) := ⟨_, rfl⟩
            have hGE := HGE.out
            rw [← hwf] at hGE ⊢
            rw [List.append_assoc, ← fL_succ] at hGE
            have HGF := hid hGE.1
            have HBF := hid (HB5.out.trans ((Below.mono (Fr.below HDS.out (Nat.le_refl _) (fun _ h => h.elim)) HB5.out.size).trans hGE.2))
            clear hwf hGE HGE x1g z1g HR5 HB5 HDS
            go_wp2_with fail
            go_roundw
            case rel => exact ⟨k + 1, _, _, _, _, by omega, by go_num, HGF, HBF⟩
            case measure => simp [intOf]; omega
          · have hnk : n = k := by omega
            subst hnk
            have c0 := HR.out.x0
            obtain ⟨va, vc, hva⟩ := own_form HR.out.c
            have hcl : (csL nz K r ++ fL n (fun _ => (1 : Int))).length = fr + n := by rw [List.length_append, csL_len, fL_len, HFR.out]
            rw [hcl] at hva
            subst hva
            have hrow : ∃ g, va = some ⟨g, 0, none⟩ := by
              have h := HR.out.c
              rw [hcl] at h
              rcases h.2 with ⟨h1, _⟩ | ⟨g, cap, cur, h1, _⟩
              · simp only [Value.slice.injEq] at h1; omega
              · simp only [Value.slice.injEq] at h1; exact ⟨g, h1.1⟩
            obtain ⟨g, rfl⟩ := hrow
            have hh : n / 2 < n := by omega
            have cg : wr.cell? ⟨g, fr + n / 2, none⟩ = some (.int .u32 1) := by
              have h := HR.out.c
              rw [hcl] at h
              rw [h.cellAt (fr + n / 2) (by omega), List.getElem?_map, HFR.out, app_at (csL_len r), fL_at hh]
              rfl
            have zg : wr.frozen? ⟨g, fr + n / 2, none⟩ = false := by
              have h := HR.out.c
              rw [hcl] at h
              exact h.frozenAt _
            have hinc := HR.out.inc hcl.symm (fr + n / 2) 2
            have hset : (csL nz K r ++ fL n (fun _ => (1 : Int))).set (fr + n / 2) 2 = csL nz K (r + 1) := by
              have h1 : (csL nz K r ++ fL n (fun _ => (1 : Int))).set (fr + n / 2) 2 = csL nz K r ++ (fL n (fun _ => (1 : Int))).set (n / 2) 2 := by
                rw [List.set_append, if_neg (by rw [csL_len, ← HFR.out]; omega), csL_len, ← HFR.out]
                congr 2
                omega
              rw [h1, fL_set]
              show _ = csL nz K r ++ fL (nz r) (rgC nz K r)
              rw [← HNR.out]
              congr 1
              refine fL_congr (fun i _ => ?_)
              have hrK : r = K := of_decide_eq_true HKP.out.symm
              unfold upd rgC
              rw [← HNR.out]
              by_cases hi : i = n / 2
              · rw [if_pos hi, if_pos ⟨hrK, hi⟩]
              · rw [if_neg hi, if_neg (fun h => hi h.2)]
            have hri := hinc.1
            rw [hset, show esL nz r ++ fL n (rgE nz r) = esL nz (r + 1) by rw [HNR.out]; rfl, show waL nz K r ++ [] = waL nz K (r + 1) by show _ = waL nz K r ++ _; rw [if_pos (of_decide_eq_true HKP.out.symm)]] at hri
            obtain ⟨wx, hwx⟩ : ∃ wx, wx = wr.setCell ⟨g, fr + n / 2, none⟩ (cU 2) := ⟨_, rfl⟩
            rw [← hwx] at hri
            have HRx := hid hri
            have HBx := hid (show Below w.heap.size w wx by rw [hwx]; exact HB.out.trans hinc.2)
            have HWX := hid hwx
            clear hcl hinc hset hri hwx HR HB hkn
            go_upto_region 20 with fail
            rw [← HWX.out]
            clear HWX c0 cg zg
            obtain ⟨sa, sc, hsa⟩ := own_form HRx.out.s
            obtain ⟨ls, hls⟩ : ∃ ls, ls = (suL nz r).length := ⟨_, rfl⟩
            have hlsb : ls ≤ 20 := by rw [hls, suL_len]; omega
            rw [← hls] at hsa
            subst hsa
            have HLS := hid hls
            have HSO := hid (show wx.ownsRow w.heap.size TI 1 (.slice sa ls sc) (suL nz r).length ((suL nz r).map nI) from HRx.out.s)
            have HEQ := hid (show (fr : Int) + (n : Int) - 1 = ((frm nz r + nz r - 1 : Nat) : Int) by have := HFR.out; have := HNR.out; omega)
            clear hls
            go_wp2_with (first
              | (at_builtin; go_loud (refine wpList_pushI (o := ⟨some 84, _, _, _, _, _⟩) rfl (.tmp 78) (.tmp 83) rfl w.heap.size (.slice sa ls sc) (suL nz r) (frm nz r + nz r - 1) rfl (OwI.alloc HSO.out _) wx.heap.size 1 rfl (by rw [cell_of_row _ _ 0 _ _ _ (heap_alloc_new wx _), HEQ.out]; rfl) (by rw [← HLS.out]; omega) (by have := HBx.out.size; simp; omega) ?_); intro v5s w9s k1 k2 k3; have K1 := hid k1; have K2 := hid k2; have K3 := hid k3; clear k1 k2 k3)
              | fail)
            have hgs := HRx.out.growS K1.out K2.out K3.out
            have HGS := hid hgs.1
            have HBS := hid (HBx.out.trans hgs.2)
            clear hgs K1 K2 K3 HRx HBx HSO
            go_roundw
            case rel => exact ⟨r + 1, _, _, _, _, by omega, by go_num, HGS, HBS⟩
            case measure => simp [intOf]; omega
      | false =>
        go_wp2_with fail
        clear c0
        go_loopw [12, 7] (fun i av wr => ∃ (k : Nat) (F : Nat → Nat) (cv ev : Value) (vs : List Value), k ≤ n ∧ i = .int .i64 k ∧ RowKit.Hid (RgI w.heap.size wr xb F cv ev u6 av (csL nz K r ++ fL k (fun _ => 1)) vs (esL nz r ++ fL k (rgE nz r)) (suL nz r) (waL nz K r ++ fL k (fun j => frm nz r + j))) ∧ RowKit.Hid (Below w.heap.size w wr)) (fun i _ _ => n - (intOf i).toNat)
        case atStart => exact ⟨0, F, _, _, vs, by omega, rfl, hid (by simpa [fL] using HR.out), HB⟩
        case round =>
          obtain ⟨k, F, cv, ev, vs, hk, rfl, HR, HB⟩ := hrel
          by_cases hkn : k < n
          · have c0 := HR.out.x0
            obtain ⟨va, vc, hva⟩ := own_form HR.out.c
            subst hva
            have hcl : (csL nz K r ++ fL k (fun _ => (1 : Int))).length = fr + k := by rw [List.length_append, csL_len, fL_len, HFR.out]
            rw [hcl] at c0
            have HCL := hid hcl
            have hbb := HB.out.size
            have HL5 := hid (show (csL nz K r ++ fL k (fun _ => (1 : Int)) ++ [1]).length = fr + (k + 1) by rw [List.length_append, HCL.out]; rfl)
            have HC := hid (show wr.ownsRow w.heap.size TU32 1 (.slice va (fr + k) vc) (csL nz K r ++ fL k (fun _ => (1 : Int))).length ((csL nz K r ++ fL k (fun _ => (1 : Int))).map cU) by have h := HR.out.c; rw [hcl] at h ⊢; exact h)
            have HRI := hid (show RgI w.heap.size wr xb F (.slice va (fr + k) vc) ev u6 _ (csL nz K r ++ fL k (fun _ => 1)) vs (esL nz r ++ fL k (rgE nz r)) (suL nz r) _ by have h := HR.out; rw [hcl] at h; exact h)
            clear hcl HR
            go_upto_region 15 with (first
              | (at_builtin; go_loud (refine wpList_pushC (o := ⟨some 45, _, _, _, _, _⟩) rfl (.tmp 43) (.tmp 44) rfl w.heap.size (.slice va (fr + k) vc) (csL nz K r ++ fL k (fun _ => (1 : Int))) 1 rfl (World.ownsRow.alloc HC.out _) wr.heap.size 1 rfl (by rw [cell_of_row _ _ 0 _ _ _ (heap_alloc_new wr _)]; rfl) (by rw [HCL.out]; omega) (by simp; omega) ?_); intro v5 w9 k1 k2 k3; have hgr := HRI.out.growC k1 k2 k3; have HGR := hid hgr.2; rw [HL5.out] at k1; have c0' := cell_of_row w9 xb 0 _ _ _ hgr.1; have z0' := frozen_of_row w9 xb 0 _ _ hgr.1; obtain ⟨v5a, v5c, rfl⟩ := own_form k1; simp only [List.getElem?_toArray, List.getElem?_cons_zero] at c0'; clear k1 k2 k3 hgr)
              | fail)
            obtain ⟨hR5, hb5⟩ := HGR.out
            rw [List.append_assoc, show fL k (fun _ => (1 : Int)) ++ [1] = fL (k + 1) (fun _ => 1) from (fL_succ k _).symm] at hR5
            obtain ⟨wy, hwy⟩ : ∃ wy, wy = w9.setCell ⟨xb, 0, none⟩ (.slice v5a (fr + (k + 1)) v5c) := ⟨_, rfl⟩
            rw [← hwy] at hR5 hb5 ⊢
            have hB5 := HB.out.trans hb5
            obtain ⟨F5, hF5⟩ : ∃ F5, F5 = nlab F wr.heap.size 2 := ⟨_, rfl⟩
            rw [← hF5] at hR5
            obtain ⟨ea, ec, hea⟩ := own_form hR5.e
            subst hea
            have hvl : vs.length = fr + k := by rw [hR5.l, List.length_append, esL_len, fL_len, HFR.out]
            have x1 := hR5.x1
            rw [hvl] at x1
            have HVL := hid hvl
            have HR5 := hid hR5
            have HB5 := hid hB5
            have hw1 : IntKind.i64.wrap ((k : Int) + 1) = (k : Int) + 1 := IntWalk.i64_in _ ⟨by omega, by omega⟩
            have hmod : ((k : Int) + 1) % (n : Int) = (((k + 1) % n : Nat) : Int) := by rw [Int.natCast_emod]; rfl
            have hmlt : (k + 1) % n < n := Nat.mod_lt _ (by omega)
            clear hwy hR5 hb5 hF5 hvl c0' z0' HGR HRI HC c0 hB5 HR HB
            refine D.wp_region_mix [0, 1, 0, 0, 0, 0, 0, 0, 2, 2, 2, 0, 3] (fun W => W.cell? ⟨xb, 1, none⟩ = some (.slice ea (fr + k) ec)) (by kernel_rfl) (by kernel_rfl) x1 ?_
            repeat (first
              | (refine' C.wpMix_value _ rfl rfl _ _; rotate_left; (solve | (intro W; go_simp) | (intro W; go_simp; with_reducible rfl)); simp only [Act.put, List.setIfInBounds_toArray, List.set_cons_zero, List.set_cons_succ])
              | (refine' C.wpMix_read _ rfl rfl _ _; rotate_left; (solve | (rintro W hS; go_simp) | (rintro W hS; go_simp; with_reducible rfl)); simp only [Act.put, List.setIfInBounds_toArray, List.set_cons_zero, List.set_cons_succ]))
            refine C.wpMix_value _ rfl rfl (fun W => exec_remN rfl rfl rfl (by omega) (by omega) (by omega)) ?_
            simp only [Act.put, List.setIfInBounds_toArray, List.set_cons_zero, List.set_cons_succ]
            refine C.wpMix_value _ rfl rfl (fun W => exec_addN rfl rfl rfl (by omega) (by omega)) ?_
            simp only [Act.put, List.setIfInBounds_toArray, List.set_cons_zero, List.set_cons_succ]
            have hE : fr + (k + 1) % n = rgE nz r k := by unfold rgE; rw [HFR.out, HNR.out]
            rw [hE]
            obtain ⟨wd, hwd⟩ : ∃ wd, wd = wy.drew := ⟨_, rfl⟩
            rw [← hwd]
            have hfd : Fr (fun _ => False) wy wd := by rw [hwd]; exact (Fr.refl _ _).drew
            have hRd := HR5.out.same hfd
            have x1d := hRd.x1
            rw [HVL.out] at x1d
            have hxl := (Array.getElem?_eq_some_iff.1 hRd.x).1
            obtain ⟨w6, hw6⟩ : ∃ w6, w6 = wd.alloc (.cells #[nI (rgE nz r k)] TI) := ⟨_, rfl⟩
            have s6 : w6.heap.size = wd.heap.size + 1 := by rw [hw6]; simp
            obtain ⟨w7, hw7⟩ : ∃ w7, w7 = w6.alloc (.cells #[.slice (some ⟨wd.heap.size, 0, none⟩) 1 1] TSI) := ⟨_, rfl⟩
            have s7 : w7.heap.size = w6.heap.size + 1 := by rw [hw7]; simp
            have x1e : w6.cell? ⟨xb, 1, none⟩ = some (.slice ea (fr + k) ec) := by
              rw [hw6, World.cell?_of_block (w := wd) (w' := wd.alloc (.cells #[nI (rgE nz r k)] TI)) (a := ⟨xb, 1, none⟩) (by first | exact heap_alloc_old _ _ hxl | exact heap_alloc_old _ _ _ hxl)]; exact x1d
            have x1f : w7.cell? ⟨xb, 1, none⟩ = some (.slice ea (fr + k) ec) := by
              rw [hw7, World.cell?_of_block (w := w6) (w' := w6.alloc (.cells #[.slice (some ⟨wd.heap.size, 0, none⟩) 1 1] TSI)) (a := ⟨xb, 1, none⟩) (by first | exact heap_alloc_old _ _ (show xb < w6.heap.size by omega) | exact heap_alloc_old _ _ _ (show xb < w6.heap.size by omega))]; exact x1e
            have ho7 : w7.ownsRow w.heap.size TSI 1 (.slice ea (fr + k) ec) vs.length vs := by
              have h := hRd.e
              rw [HVL.out] at h ⊢
              rw [hw7, hw6]
              exact World.ownsRow.alloc (World.ownsRow.alloc h _) _
            obtain ⟨v8, w8, r1, r2, r3, r4⟩ := run_pushL 23 w.heap.size _ vs (.slice (some ⟨wd.heap.size, 0, none⟩) 1 1) ho7 w6.heap.size 1 (by rw [hw7, cell_of_row _ _ 0 _ _ _ (heap_alloc_new w6 _)]; rfl) rfl (by rw [HVL.out]; omega) (by have := HB5.out.size; have := hfd.size; omega)
            have hgE := hRd.growE (t := rgE nz r k) r2 (by rw [HVL.out, ← hw6, ← hw7]; exact r3) (by rw [HVL.out, ← hw6, ← hw7]; exact r4)
            have x1g := cell_of_row w8 xb 1 _ _ _ hgE.1
            have z1g := frozen_of_row w8 xb 1 _ _ hgE.1
            simp only [List.getElem?_toArray, List.getElem?_cons_succ, List.getElem?_cons_zero] at x1g
            obtain ⟨v8a, v8c, hv8⟩ := own_form r2
            have hlen8 : (vs ++ [Value.slice (some ⟨wd.heap.size, 0, none⟩) 1 1]).length = fr + k + 1 := by rw [List.length_append, HVL.out]; rfl
            rw [hlen8] at hv8
            subst hv8
            have HGE := hid hgE.2
            have HDS := hid hfd
            refine C.wpMix_write _ w6 (by decide) rfl (by rw [hw6]; exact exec_one rfl rfl ⟨_, rfl⟩) (fun _ => x1e) ?_
            simp only [Act.put, List.setIfInBounds_toArray, List.set_cons_zero, List.set_cons_succ]
            refine C.wpMix_write _ w7 (by decide) rfl (by rw [hw7]; exact exec_oneL rfl rfl ⟨_, _, _, rfl⟩) (fun _ => x1f) ?_
            simp only [Act.put, List.setIfInBounds_toArray, List.set_cons_zero, List.set_cons_succ]
            refine C.wpMix_write (.slice v8a (fr + k + 1) v8c) w8 (by decide) rfl (exec_append rfl rfl rfl r1) (fun _ => by rw [x1g, HVL.out]) ?_
            simp only [Act.put, List.setIfInBounds_toArray, List.set_cons_zero, List.set_cons_succ]
            clear x1d x1e x1f s6 s7 hxl ho7 r1 r2 r3 r4 hfd hRd hgE x1 hwd hw6 hw7 hE hmod hmlt hw1 hlen8
            refine C.wpMix_value (.pointer (some ⟨xb, 1, none⟩)) rfl rfl (fun W => by go_simp) ?_
            simp only [Act.put, List.setIfInBounds_toArray, List.set_cons_zero, List.set_cons_succ]
            refine C.wpMix_skip (w8.setCell ⟨xb, 1, none⟩ (.slice v8a (fr + k + 1) v8c)) (by decide) rfl (by go_simp) (fun h => by cases h) ?_
            simp only [Act.put]
            refine C.wpMix_end ?_
            obtain ⟨wf, hwf⟩ : ∃ wf, wf = w8.setCell ⟨xb, 1, none⟩ (.slice v8a (fr + k + 1) v8c) := ⟨_, rfl⟩
            have hGE := HGE.out
            rw [← hwf] at hGE ⊢
            rw [List.append_assoc, ← fL_succ] at hGE
            have HGF := hid hGE.1
            have HBF := hid (HB5.out.trans ((Below.mono (Fr.below HDS.out (Nat.le_refl _) (fun _ h => h.elim)) HB5.out.size).trans hGE.2))
            clear hwf hGE HGE x1g z1g HR5 HB5 HDS
            obtain ⟨aa, ac, haa⟩ := own_form HGF.out.a
            obtain ⟨la, hla⟩ : ∃ la, la = (waL nz K r ++ fL k (fun j => frm nz r + j)).length := ⟨_, rfl⟩
            have hlab : la ≤ 400 := by
              rw [hla, List.length_append, fL_len]
              have h1 : (waL nz K r).length ≤ frm nz r := by rw [waL_filter]; refine Nat.le_trans (List.length_filter_le _ _) ?_; simp
              have := HFR.out
              omega
            rw [← hla] at haa
            subst haa
            have HLA := hid hla
            have HAO := hid (show wf.ownsRow w.heap.size TI 1 (.slice aa la ac) (waL nz K r ++ fL k (fun j => frm nz r + j)).length ((waL nz K r ++ fL k (fun j => frm nz r + j)).map nI) from HGF.out.a)
            have HEQ := hid (show (fr : Int) + (k : Int) = ((frm nz r + k : Nat) : Int) by have := HFR.out; omega)
            clear hla
            go_wp2_with (first
              | (at_builtin; go_loud (refine wpList_pushI (o := ⟨some 66, _, _, _, _, _⟩) rfl (.tmp 61) (.tmp 65) rfl w.heap.size (.slice aa la ac) (waL nz K r ++ fL k (fun j => frm nz r + j)) (frm nz r + k) rfl (OwI.alloc HAO.out _) wf.heap.size 1 rfl (by rw [cell_of_row _ _ 0 _ _ _ (heap_alloc_new wf _), HEQ.out]; rfl) (by rw [← HLA.out]; omega) (by have := HBF.out.size; simp; omega) ?_); intro v5s w9s k1 k2 k3; have K1 := hid k1; have K2 := hid k2; have K3 := hid k3; clear k1 k2 k3)
              | fail)
            have hga := HGF.out.growA K1.out K2.out K3.out
            have hga1 := hga.1
            rw [List.append_assoc, show fL k (fun j => frm nz r + j) ++ [frm nz r + k] = fL (k + 1) (fun j => frm nz r + j) from (fL_succ k _).symm] at hga1
            have HGA := hid hga1
            have HBA := hid (HBF.out.trans hga.2)
            clear hga hga1 K1 K2 K3 HGF HBF HAO
            go_roundw
            case rel => exact ⟨k + 1, _, _, _, _, by omega, by go_num, HGA, HBA⟩
            case measure => simp [intOf]; omega
          · have hnk : n = k := by omega
            subst hnk
            obtain ⟨wx, hwx⟩ : ∃ wx, wx = wr := ⟨_, rfl⟩
            have hri := HR.out
            have hrK : ¬ r = K := of_decide_eq_false HKP.out.symm
            rw [show csL nz K r ++ fL n (fun _ => (1 : Int)) = csL nz K (r + 1) by
              show _ = csL nz K r ++ fL (nz r) (rgC nz K r)
              rw [← HNR.out]
              congr 1
              refine fL_congr (fun i _ => ?_)
              unfold rgC
              rw [if_neg (fun h => hrK h.1)], show esL nz r ++ fL n (rgE nz r) = esL nz (r + 1) by rw [HNR.out]; rfl, show waL nz K r ++ fL n (fun j => frm nz r + j) = waL nz K (r + 1) by show _ = waL nz K r ++ _; rw [if_neg hrK, HNR.out], ← hwx] at hri
            have HRx := hid hri
            have HBx := HB
            rw [← hwx] at HBx
            have HWX := hid hwx
            clear hri hwx HR HB hkn hrK
            go_upto_region 20 with fail
            rw [← HWX.out]
            clear HWX
            obtain ⟨sa, sc, hsa⟩ := own_form HRx.out.s
            obtain ⟨ls, hls⟩ : ∃ ls, ls = (suL nz r).length := ⟨_, rfl⟩
            have hlsb : ls ≤ 20 := by rw [hls, suL_len]; omega
            rw [← hls] at hsa
            subst hsa
            have HLS := hid hls
            have HSO := hid (show wx.ownsRow w.heap.size TI 1 (.slice sa ls sc) (suL nz r).length ((suL nz r).map nI) from HRx.out.s)
            have HEQ := hid (show (fr : Int) + (n : Int) - 1 = ((frm nz r + nz r - 1 : Nat) : Int) by have := HFR.out; have := HNR.out; omega)
            clear hls
            go_wp2_with (first
              | (at_builtin; go_loud (refine wpList_pushI (o := ⟨some 84, _, _, _, _, _⟩) rfl (.tmp 78) (.tmp 83) rfl w.heap.size (.slice sa ls sc) (suL nz r) (frm nz r + nz r - 1) rfl (OwI.alloc HSO.out _) wx.heap.size 1 rfl (by rw [cell_of_row _ _ 0 _ _ _ (heap_alloc_new wx _), HEQ.out]; rfl) (by rw [← HLS.out]; omega) (by have := HBx.out.size; simp; omega) ?_); intro v5s w9s k1 k2 k3; have K1 := hid k1; have K2 := hid k2; have K3 := hid k3; clear k1 k2 k3)
              | fail)
            have hgs := HRx.out.growS K1.out K2.out K3.out
            have HGS := hid hgs.1
            have HBS := hid (HBx.out.trans hgs.2)
            clear hgs K1 K2 K3 HRx HBx HSO
            go_roundw
            case rel => exact ⟨r + 1, _, _, _, _, by omega, by go_num, HGS, HBS⟩
            case measure => simp [intOf]; omega
    · have hnr : ns = r := by omega
      subst hnr
      have hfb : frm nz ns ≤ 180 := by have := frm_bd HZ9.out ns; omega
      have hG := HR.out.graph (fun c hc => by
        obtain ⟨j, hj⟩ := List.mem_iff_getElem?.1 hc
        have hjl := (List.getElem?_eq_some_iff.1 hj).1
        rw [csL_len] at hjl
        obtain ⟨i, k, hi, hk, rfl⟩ := frm_ex hjl
        rw [csL_at hi hk] at hj
        cases hj
        have := rgC_bd (nz := nz) (K := K) i k
        omega) (fun t ht => by have := esL_lt HZ1.out t ht; omega)
      have hsT := (own_told HR.out.s).ints
      have hga := Garbage_any wr cv ev u6 (csL nz K ns) ((esL nz ns).map fun t : Nat => [(t : Int)]) ((suL nz ns).map Int.ofNat) hG hsT (by rw [csL_len]; omega) (by rw [totE_one, esL_len]; omega) (by
        refine Nat.le_trans (wi_len_le _ _) ?_
        rw [List.length_map, suL_len]; omega)
      have hgb : (grS (csL nz K ns) ((esL nz ns).map fun t : Nat => [(t : Int)]) ((suL nz ns).map Int.ofNat)).garb = waL nz K ns := rg_garb HZ1.out
      rw [hgb] at hga
      have hwT := own_told HR.out.a
      have HWT := hid hwT
      have HXX := hid HR.out.x
      have hat := hid (AtL.row HR.out.x : AtL wr xb 0 _)
      obtain ⟨wl, hwl⟩ : ∃ wl, wl = (waL nz K ns).map Int.ofNat := ⟨_, rfl⟩
      have HWL := hid hwl
      obtain ⟨ca, cc, hca⟩ := own_form HR.out.c
      obtain ⟨ea, ec, hea⟩ := own_form HR.out.e
      obtain ⟨sa, sc, hsa⟩ := own_form HR.out.s
      obtain ⟨aa, ac, haa⟩ := own_form HR.out.a
      obtain ⟨lc, hlc⟩ : ∃ lc, lc = (csL nz K ns).length := ⟨_, rfl⟩
      obtain ⟨le, hle⟩ : ∃ le, le = vs.length := ⟨_, rfl⟩
      obtain ⟨ls, hls⟩ : ∃ ls, ls = (suL nz ns).length := ⟨_, rfl⟩
      obtain ⟨la, hla⟩ : ∃ la, la = (waL nz K ns).length := ⟨_, rfl⟩
      rw [← hlc] at hca
      rw [← hle] at hea
      rw [← hls] at hsa
      rw [← hla] at haa
      subst hca hea hsa haa
      have HGA := hid hga
      clear hG hsT hga hgb hwT hwl hlc hle hls hla HR hrn
      go_wp2_with (first
        | ((with_reducible refine at_op ⟨some 85, _, _, _, _, _⟩ ?_); go_loud (refine wpList_run rfl _ (load_cells Try.underlying25 (by rfl) (by kernel_rfl) rfl rfl hat.out) ?_))
        | fail)
      refine HGA.out.mono ?_
      rintro en w5 ⟨v5, rfl, hT5, hb5⟩
      have HSM := hid (SameI_tl w5 v5 _ _ hT5.ints ((HWT.out.ints.below hb5).up hb5.size))
      have HB5 := hid (HB.out.trans (hb5.mono HB.out.size))
      clear hT5 hb5 HGA HWT HB
      go_wp2_with fail
      refine HSM.out.mono ?_
      rintro en w6 ⟨rfl, hb6⟩
      have HB6 := hid (HB5.out.trans (hb6.mono HB5.out.size))
      have HAW := hid (awake_any w6)
      clear hb6 HSM HB5
      go_wp2_with (first
        | (go_at_call 10; (with_reducible refine HAW.out.mono ?_); rintro en w7 ⟨rfl, hb7⟩; have HB7 := hid (HB6.out.trans (hb7.mono HB6.out.size)); clear hb7)
        | fail)
      go_ret
      exact ⟨rfl, HB7.out⟩
end Go.Proofs.Ytjmhlmohennknab
