/-
  The law's do: an act at both.
-/
import Derived.Test.YtbdhjkdojgdhbaaLsC
import Derived.Test.YtbdhjkdojgdhbaaPick
namespace Go.Proofs.Ytbdhjkdojgdhbaa
open Go Go.ChangeShapes Go.WideShapes Go.ChangeAt Go.RowKit

abbrev TAc : TypeId := 33
def doZ (m k : Int) (z : Lz) : Lz := if m = 0 then z.join k else if m = 1 then z.ping k else if m = 2 then z.leave k else z.tick
theorem ZOk.do {N : Nat} {z : Lz} (h : ZOk N z) (m k : Int) : ZOk (N + 1) (doZ m k z) := by
  unfold doZ
  split
  · exact h.join k
  · split
    · exact (h.ping k).up (Nat.le_succ _)
    · split
      · exact (h.leave k).up (Nat.le_succ _)
      · exact h.tick
/-- A cell of a row of one's own is written. -/
theorem own_setC {w : World} {B T k n g c j : Nat} {xs : List Value} {u : Value} (h : w.ownsRow B T k (.slice (some ⟨g, 0, none⟩) n c) n xs) : (w.setCell ⟨g, j, none⟩ u).ownsRow B T k (.slice (some ⟨g, 0, none⟩) n c) n (xs.set j u) := by
  refine ⟨by rw [List.length_set]; exact h.1, ?_⟩
  rcases h.2 with ⟨e, _⟩ | ⟨g', cap, cur, e, hb, hg, hc, hm, hs, ht⟩
  · cases e
  · cases e
    refine .inr ⟨g, c, cur.setIfInBounds j u, rfl, hb, heap_setCell_same w g j _ _ u hg, hc, hm, by simpa using hs, ?_⟩
    rw [Array.toList_setIfInBounds, List.take_set, ht]
theorem onv_set {l : List On} {i : Nat} {k u t : Int} : l[i]? = some (k, u) → (onv l).set (i * 2 + 1) (iv t) = onv (l.set i (k, t)) := by
  induction l generalizing i with
  | nil => intro h; simp at h
  | cons x r ih =>
    intro h
    cases i with
    | zero =>
      simp at h
      subst h
      rfl
    | succ i =>
      have h2 := ih (i := i) (by simpa using h)
      show (onc x ++ onv r).set ((i + 1) * 2 + 1) (iv t) = onc x ++ onv (r.set i (k, t))
      rw [List.set_append_right _ _ (by show (onc x).length ≤ _; simp [onc]; omega), ← h2]
      congr 2
      simp [onc]; omega
section
variable {w : World} {S : Nat → Prop} {p : Nat} {z : Lz} {lv : Value}
theorem RlW.setAt (h : RlW w S p z lv) (hr : Rise z.l) {i g c : Nat} {k u : Int} (hi : z.l[i]? = some (k, u)) (hlv : lv = .slice (some ⟨g, 0, none⟩) z.l.length c) :
    RlW (w.setCell ⟨g, i * 2 + 1, none⟩ (iv z.now)) S p ⟨z.time, z.now, setK k z.now z.l⟩ lv ∧ Fr S w (w.setCell ⟨g, i * 2 + 1, none⟩ (iv z.now)) := by
  have hil := (List.getElem?_eq_some_iff.1 hi).1
  have hgp : g ≠ p := h.nr (g := g) (by rw [hlv]; rfl)
  have hf : Fr (fun b => b = g) w (w.setCell ⟨g, i * 2 + 1, none⟩ (iv z.now)) := (Fr.refl _ _).setCell _ _ (fun _ => rfl)
  have hrow := h.row
  rw [hlv] at hrow
  have h2 := own_setC (u := iv z.now) hrow (j := i * 2 + 1)
  rw [onv_set hi, set_at hr hi] at h2
  refine ⟨⟨(hf.block p h.lt (fun e => hgp e.symm)).trans h.hp, ?_, h.sp, h.sr, fun k hk => Nat.lt_of_lt_of_le (h.sl k hk) hf.size⟩, hf.mono (fun k hk _ => by rw [hk]; exact h.sr g (by rw [hlv]; rfl))⟩
  show World.ownsRow _ 0 TOn 2 lv (setK k z.now z.l).length (onv (setK k z.now z.l))
  rw [set_len, hlv]
  exact h2
end
/-- A row of one's own is told. -/
theorem own_toldU {w : World} {B n : Nat} {v : Value} {xs : List Int} (h : w.ownsRow B TU 1 v n (xs.map u64v)) : Told TU u64v w v xs := by
  have hn : n = xs.length := by have := h.1; simp at this; omega
  subst hn
  obtain ⟨a, k, rfl⟩ := own_form h
  refine ⟨a, k, rfl, own_cap h, own_capmax h, fun hl => ?_⟩
  rcases h.2 with ⟨h1, h2⟩ | ⟨g, cap, cur, h1, h2, h3, _⟩
  · omega
  · cases h1
    refine ⟨g, 0, rfl, (Array.getElem?_eq_some_iff.1 h3).1, fun j u hu => ?_⟩
    have hj := (List.getElem?_eq_some_iff.1 hu).1
    rw [Nat.zero_add, h.cellAt j (by rw [List.length_map] at hj; omega)]
    exact hu
theorem own_fz {w : World} {B T k n g c : Nat} {xs : List Value} (h : w.ownsRow B T k (.slice (some ⟨g, 0, none⟩) n c) n xs) (j : Nat) : w.frozen? ⟨g, j, none⟩ = false := by
  rcases h.2 with ⟨e, _⟩ | ⟨g', cap, cur, e, hb, hg, hc, hm, hs, ht⟩
  · cases e
  · cases e
    exact frozen_of_row w g j _ _ hg
section
variable {Rp : World → (Nat → Prop) → Value → Lz → Prop} {B p : Nat} {v : Value} {z z1 z2 : Lz} {X : Nat → Prop} {W W' : World}
theorem PrL.drop (HC : LsC Rp) (h : PrL Rp B v p z1 z2 X W) : PrL Rp B v p z1 z2 (fun _ => False) W := h.fresh HC (Below.refl _ _) (fun _ hk => hk.elim)
/-- The twin marks when one was heard of. -/
theorem PrL.setAt (HC : LsC Rp) (h : PrL Rp B v p z1 z X W) (hr : Rise z.l) {i : Nat} {k u : Int} (hi : z.l[i]? = some (k, u)) : ∃ g c, W.cell? ⟨p, 1, none⟩ = some (iv z.now) ∧ W.cell? ⟨p, 2, none⟩ = some (.slice (some ⟨g, 0, none⟩) z.l.length c) ∧ W.frozen? ⟨g, i * 2 + 1, none⟩ = false ∧
    W.cell? ⟨g, i * 2 + 1, none⟩ = some (iv u) ∧ PrL Rp B v p z1 ⟨z.time, z.now, setK k z.now z.l⟩ X (W.setCell ⟨g, i * 2 + 1, none⟩ (iv z.now)) ∧ Fr (fun k => B ≤ k ∧ ¬ X k) W (W.setCell ⟨g, i * 2 + 1, none⟩ (iv z.now)) := by
  obtain ⟨S1, S2, lv, h1, h2, h3, h4, h5, h6⟩ := h.ex
  obtain ⟨g, c, hlv, hat, e0, e1⟩ := h2.at_ hi
  obtain ⟨k1, k2⟩ := h2.setAt hr hi hlv
  have hrow := h2.row
  have c2 := h2.c2
  rw [hlv] at hrow c2
  refine ⟨g, c, h2.c1, c2, own_fz hrow _, e1, ⟨S1, S2, lv, HC.fr h1 k2 (fun k a b => h5 k a b), k1, h3, h4, h5, fun k hk => ⟨(h6 k hk).1, (h6 k hk).2.1, Nat.lt_of_lt_of_le (h6 k hk).2.2 k2.size⟩⟩, k2.mono (fun k hk _ => ⟨h4 k hk, fun e => (h6 k e).2.1 hk⟩)⟩
theorem told_frL {T : TypeId} {f : Int → Value} {fp : Nat → Prop} {W W' : World} {v : Value} {xs : List Int} (h : Told T f W v xs) (hf : Fr fp W W') (hn : ∀ k, v.ownBlock = some k → ¬ fp k) : Told T f W' v xs := by
  obtain ⟨a, c, h1, h2, h3, h4⟩ := h.ex
  exact ⟨a, c, h1, h2, h3, fun hl => by
    obtain ⟨b, o, h5, h6, h7⟩ := h4 hl
    refine ⟨b, o, h5, Nat.lt_of_lt_of_le h6 hf.size, fun j u hu => ?_⟩
    rw [World.cell?_of_block (hf.block b h6 (hn b (by rw [h1, h5]; rfl)))]
    exact h7 j u hu⟩
/-- Both tick: what each tells lies beside the other. -/
theorem PrL.tick (HC : LsC Rp) {N : Nat} (h : PrL Rp B v p z z X W) (hB : B ≤ W.heap.size) (hz : ZOk N z) (hN : N ≤ 99999) :
    Calls Try.prog 18 #[v] W fun e w' => Fr (fun k => B ≤ k ∧ ¬ X k) W w' ∧ ∃ u, e = .returned u ∧ Calls Try.prog 25 #[.pointer (some ⟨p, 0, none⟩)] w' fun e2 w2 =>
      Fr (fun k => B ≤ k ∧ ¬ X k) w' w2 ∧ ∃ u2, e2 = .returned u2 ∧ Told TU u64v w2 u (overK z) ∧ Told TU u64v w2 u2 (overK z) ∧ PrL Rp B v p z.tick z.tick X w2 := by
  obtain ⟨S1, S2, lv, h1, h2, h3, h4, h5, h6⟩ := h.ex
  refine (HC.tick h1 hz (by omega)).mono ?_
  rintro e w' ⟨⟨u, rfl, hT, hu⟩, k3, k4⟩
  refine ⟨k4.mono (fun k hk _ => ⟨h3 k hk, fun e => (h6 k e).1 hk⟩), u, rfl, ?_⟩
  refine (RTick_any (h2.fr k4 (fun k a b => h5 k b a)) (by have := hz.len; omega) (by have := hz.now0; have := hz.nowN; omega) hz.heard).mono ?_
  rintro e2 w2 ⟨⟨u2, m, rfl, hown⟩, ⟨lv2, k5⟩, k6⟩
  refine ⟨k6.mono (fun k hk _ => ⟨h4 k hk, fun e => (h6 k e).2.1 hk⟩), u2, rfl, told_frL hT k6 (fun b hb hS => ?_), own_toldU hown, ⟨exS S1 W w', exS S2 w' w2, lv2, HC.fr k3 k6 (fun k a b => ?_), k5, fun k hk => ?_, fun k hk => ?_, fun k hk e => ?_, fun k hk => ⟨fun e => ?_, fun e => ?_, Nat.lt_of_lt_of_le (h6 k hk).2.2 (Nat.le_trans k4.size k6.size)⟩⟩⟩
  · rcases hu b hb with e | e
    · exact h5 b e hS
    · have := h2.sl b hS; omega
  · rcases a with e | e
    · exact h5 k e b
    · have := h2.sl k b; omega
  · rcases hk with e | e
    · exact h3 k e
    · exact Nat.le_trans hB e.1
  · rcases hk with e | e
    · exact h4 k e
    · exact Nat.le_trans hB (Nat.le_trans k4.size e.1)
  · rcases hk with a | a
    · rcases e with b | b
      · exact h5 k a b
      · have := HC.lt h1 k a; have := k4.size; omega
    · rcases e with b | b
      · have := h2.sl k b; omega
      · omega
  · rcases e with e2 | e2
    · exact (h6 k hk).1 e2
    · have := (h6 k hk).2.2; omega
  · rcases e with e2 | e2
    · exact (h6 k hk).2.1 e2
    · have := (h6 k hk).2.2; have := k4.size; omega
end
section
variable {Rp : World → (Nat → Prop) → Value → Lz → Prop} {B p N : Nat} {v : Value} {z : Lz} {W : World}
set_option maxRecDepth 100000 in
set_option maxHeartbeats 8000000 in
theorem do_any (HC : LsC Rp) (h : PrL Rp B v p z z (fun _ => False) W) (hB : B ≤ W.heap.size) (hz : ZOk N z) (hN : N ≤ 99999) (a k : Int) (ha : -9223372036854775808 ≤ a ∧ a ≤ 9223372036854775807) (hk : Hn k) :
    Calls Try.prog 10 #[v, .pointer (some ⟨p, 0, none⟩), .agg #[iv a, .int .u64 k]] W fun e w' => e = .returned (.bool true) ∧ PrL Rp B v p (doZ (a % 5) k z) (doZ (a % 5) k z) (fun _ => False) w' ∧ Below B W w' := by
  obtain ⟨pv, hpv⟩ : ∃ pv, v = .pointer (some ⟨pv, 0, none⟩) := by obtain ⟨S, h1⟩ := h.pr; exact HC.ptr h1
  obtain ⟨w1, hw1⟩ : ∃ w1, w1 = W.alloc (.cells #[iv a, .int .u64 k] TAc) := ⟨_, rfl⟩
  have hb1 : Below W.heap.size W w1 := by rw [hw1]; exact (Below.refl _ _).alloc (Nat.le_refl _) _
  obtain ⟨bx, hbx⟩ : ∃ bx, bx = W.heap.size := ⟨_, rfl⟩
  have hbxl : bx < w1.heap.size := by rw [hw1, hbx]; simp
  have h1 := h.fresh HC (X2 := fun j => j = bx) hb1 (fun j hj => .inr ⟨by omega, by rw [hj]; exact hbxl⟩)
  have hx0 : w1.heap[bx]? = some (.cells #[iv a, .int .u64 k] TAc (0, 0)) := by rw [hw1, hbx]; exact heap_alloc_new _ _
  have x0 : w1.cell? ⟨bx, 0, none⟩ = some (iv a) := by rw [cell_of_row w1 bx 0 _ _ _ hx0]; rfl
  have x1 : w1.cell? ⟨bx, 1, none⟩ = some (.int .u64 k) := by rw [cell_of_row w1 bx 1 _ _ _ hx0]; rfl
  obtain ⟨m, hm⟩ : ∃ m, m = a % 5 := ⟨_, rfl⟩
  have hm5 : 0 ≤ m ∧ m < 5 := by rw [hm]; exact ⟨Int.emod_nonneg _ (by decide), Int.emod_lt_of_pos _ (by decide)⟩
  have HPK := hid (Pick_any a 5 w1 ha (by decide) (by decide))
  rw [← hm] at HPK ⊢
  obtain ⟨S2, lv, hRl, hS2⟩ := h1.tw
  have HAT := hid (RAt_any hRl k (by have := hz.len; omega))
  have HP := hid h1
  have HX := hid hx0
  have HCC := hid HC
  have HZ := hid hz
  have HK := hid hk
  have HW1 := hid hw1
  have HB1 := hid (hb1.mono hB)
  have hB1 : B ≤ w1.heap.size := Nat.le_trans hB hb1.size
  have HBX := hid hbx
  subst hpv
  clear h HC hb1 hw1 h1 hx0 hm hz hk hRl hS2 hbx
  go_enter Try.func10, Try.ntmps10
  go_upto_region 1 with fail
  change Code.wp _ _ _ _ (W.alloc (.cells #[iv a, .int .u64 k] TAc))
  rw [← HW1.out, ← HBX.out]
  go_upto_region 3 with (first
    | (go_at_call 13; refine HAT.out.mono ?_; rintro e w2 ⟨rfl, hw2⟩; subst hw2)
    | (go_at_call 16; refine HPK.out.mono ?_; rintro e w2 ⟨rfl, hw2⟩; subst hw2)
    | fail)
  clear HAT HPK
  rcases (show m = 0 ∨ m = 1 ∨ m = 2 ∨ (m = 3 ∨ m = 4) by omega) with rfl | rfl | rfl | hm
  · go_upto_region 4 with fail
    obtain ⟨wd, hwd⟩ : ∃ wd, wd = w1.drew := ⟨_, rfl⟩
    have hd0 : Below w1.heap.size w1 wd := by rw [hwd]; exact (Below.refl _ _).drew
    have HD := hid hd0
    have hP := HP.out.below HCC.out hd0
    have hxd := (hd0.block bx hbxl).trans HX.out
    refine D.wp_region_mix [0, 0, 1, 2, 0, 0, 1, 2, 0, 0] (fun W => W.cell? ⟨bx, 1, none⟩ = some (.int .u64 k)) (by kernel_rfl) (by kernel_rfl) ?_ ?_
    · rw [← hwd, cell_of_row wd bx 1 _ _ _ hxd]; rfl
    rw [← hwd]
    clear hwd hd0
    have HO := hid (hP.one (Nat.le_trans hB1 HD.out.size) (fun S hS => HCC.out.join hS HZ.out (by omega) k HK.out))
    clear hP
    repeat (first
      | (refine' C.wpMix_value _ rfl rfl _ _; rotate_left; (solve | (intro W; go_simp) | (intro W; go_simp; with_reducible rfl)); simp only [Act.put, List.setIfInBounds_toArray, List.set_cons_zero, List.set_cons_succ])
      | (refine' C.wpMix_read _ rfl rfl _ _; rotate_left; (solve | (rintro W h1; go_simp) | (rintro W h1; go_simp; with_reducible rfl)); simp only [Act.put, List.setIfInBounds_toArray, List.set_cons_zero, List.set_cons_succ]))
    refine C.wpMix_call 17 #[.pointer (some ⟨pv, 0, none⟩), .int .u64 k] (by decide) rfl (by go_simp) ?_
    refine HO.out.mono ?_
    rintro e w2 ⟨rfl, hP2, hf2⟩
    have hx2 := (hf2.block bx (Nat.lt_of_lt_of_le hbxl HD.out.size) (fun e => e.2 rfl)).trans hxd
    have HT := hid (hP2.two HCC.out (Nat.le_trans (Nat.le_trans hB1 HD.out.size) hf2.size) (fun S lv hS => RJoin_any hS k (by have := HZ.out.len; omega)))
    have HF2 := hid hf2
    clear HO hP2 hf2
    refine ⟨_, rfl, fun _ => by rw [cell_of_row w2 bx 1 _ _ _ hx2]; rfl, ?_⟩
    simp only [Act.put, List.setIfInBounds_toArray, List.set_cons_zero, List.set_cons_succ]
    repeat (first
      | (refine' C.wpMix_value _ rfl rfl _ _; rotate_left; (solve | (intro W; go_simp) | (intro W; go_simp; with_reducible rfl)); simp only [Act.put, List.setIfInBounds_toArray, List.set_cons_zero, List.set_cons_succ])
      | (refine' C.wpMix_read _ rfl rfl _ _; rotate_left; (solve | (rintro W h1; go_simp) | (rintro W h1; go_simp; with_reducible rfl)); simp only [Act.put, List.setIfInBounds_toArray, List.set_cons_zero, List.set_cons_succ]))
    refine C.wpMix_call 23 #[.pointer (some ⟨p, 0, none⟩), .int .u64 k] (by decide) rfl (by go_simp) ?_
    refine HT.out.mono ?_
    rintro e w3 ⟨rfl, hP3, hf3⟩
    have HP3 := hid hP3
    have HF3 := hid hf3
    have hx3 := (hf3.block bx (Nat.lt_of_lt_of_le (Nat.lt_of_lt_of_le hbxl HD.out.size) HF2.out.size) (fun e => e.2 rfl)).trans hx2
    clear HT hP3 hf3
    refine ⟨_, rfl, fun _ => by rw [cell_of_row w3 bx 1 _ _ _ hx3]; rfl, ?_⟩
    simp only [Act.put, List.setIfInBounds_toArray, List.set_cons_zero, List.set_cons_succ]
    repeat (first
      | (refine' C.wpMix_value _ rfl rfl _ _; rotate_left; (solve | (intro W; go_simp) | (intro W; go_simp; with_reducible rfl)); simp only [Act.put, List.setIfInBounds_toArray, List.set_cons_zero, List.set_cons_succ])
      | (refine' C.wpMix_read _ rfl rfl _ _; rotate_left; (solve | (rintro W h1; go_simp) | (rintro W h1; go_simp; with_reducible rfl)); simp only [Act.put, List.setIfInBounds_toArray, List.set_cons_zero, List.set_cons_succ]))
    refine C.wpMix_end ?_
    go_wp2_with fail
    have hb1 : Below B W wd := HB1.out.trans (HD.out.mono hB1)
    have hb2 := hb1.trans (HF2.out.below (B := B) (Nat.le_trans hB1 HD.out.size) (fun k hk => hk.1))
    go_ret
    exact ⟨rfl, HP3.out.drop HCC.out, hb2.trans (HF3.out.below (B := B) (Nat.le_trans (Nat.le_trans hB1 HD.out.size) HF2.out.size) (fun k hk => hk.1))⟩
  · have HO := hid (HP.out.one hB1 (fun S hS => HCC.out.ping hS HZ.out (by omega) k HK.out))
    clear HX
    go_upto_region 7 with (first
      | (go_at_call 19; refine HO.out.mono ?_; rintro e w2 ⟨rfl, hP2, hf2⟩; have HP2 := hid hP2; have HF2 := hid hf2; clear hP2 hf2 x0 x1)
      | fail)
    clear HO
    have hb2 : Below B W w2 := HB1.out.trans (HF2.out.below (B := B) hB1 (fun k hk => hk.1))
    have HB2 := hid hb2
    clear hb2
    rcases hh : hasK k z.l with _ | _
    · have hi := idx_no hh
      rw [hi, if_neg (by decide)]
      have hz : doZ 1 k z = z := by
        show Lz.mk z.time z.now (if hasK k z.l then setK k z.now z.l else z.l) = z
        rw [hh]; rfl
      have hz2 : z.ping k = z := hz
      rw [hz2] at HP2
      have HZZ := hid hz
      clear hi hz hz2
      go_wp2_with fail
      go_ret
      refine ⟨rfl, ?_, HB2.out⟩
      rw [HZZ.out]
      exact HP2.out.drop HCC.out
    · obtain ⟨i, hi, hil, t, hit⟩ := idx_has hh
      rw [hi, if_pos rfl]
      have hz : doZ 1 k z = ⟨z.time, z.now, setK k z.now z.l⟩ := by
        show Lz.mk z.time z.now (if hasK k z.l then setK k z.now z.l else z.l) = _
        rw [hh]; rfl
      have hz2 : z.ping k = ⟨z.time, z.now, setK k z.now z.l⟩ := hz
      rw [hz2] at HP2
      have HZZ := hid hz
      clear hi hz hz2
      go_upto_region 8 with fail
      obtain ⟨wd, hwd⟩ : ∃ wd, wd = w2.drew := ⟨_, rfl⟩
      have hd0 : Below w2.heap.size w2 wd := by rw [hwd]; exact (Below.refl _ _).drew
      obtain ⟨g, c, c1, c2, zf, cu, hP3, hf3⟩ := (HP2.out.below HCC.out hd0).setAt HCC.out HZ.out.rise hit
      refine D.wp_region_mix [0, 0, 0, 1, 0, 0, 0, 0, 1, 0, 0, 3] (fun W => W.cell? ⟨p, 2, none⟩ = some (.slice (some ⟨g, 0, none⟩) z.l.length c) ∧ W.cell? ⟨p, 1, none⟩ = some (iv z.now)) (by kernel_rfl) (by kernel_rfl) ?_ ?_
      · rw [← hwd]; exact ⟨c2, c1⟩
      rw [← hwd]
      have HP3 := hid hP3
      have hb3 := HB2.out.trans ((hd0.mono (Nat.le_trans hB1 HF2.out.size)).trans (hf3.below (B := B) (Nat.le_trans (Nat.le_trans hB1 HF2.out.size) hd0.size) (fun k hk => hk.1)))
      have HB3 := hid hb3
      clear hwd hd0 hP3 hf3 hb3
      repeat (first
      | (refine' C.wpMix_value _ rfl rfl _ _; rotate_left; (solve | (intro W; go_simp) | (intro W; go_simp; with_reducible rfl)); simp only [Act.put, List.setIfInBounds_toArray, List.set_cons_zero, List.set_cons_succ])
      | (refine' C.wpMix_read _ rfl rfl _ _; rotate_left; (solve | (rintro W ⟨h1, h2⟩; go_simp) | (rintro W ⟨h1, h2⟩; go_simp; with_reducible rfl)); simp only [Act.put, List.setIfInBounds_toArray, List.set_cons_zero, List.set_cons_succ]))
      refine C.wpMix_skip (wd.setCell ⟨g, i * 2 + 1, none⟩ (iv z.now)) (by decide) rfl (by go_simp) (fun h => by cases h) ?_
      simp only [Act.put]
      refine C.wpMix_end ?_
      clear c1 c2 zf cu
      go_wp2_with fail
      go_ret
      refine ⟨rfl, ?_, HB3.out⟩
      rw [HZZ.out]
      exact HP3.out.drop HCC.out
  · go_upto_region 11 with fail
    obtain ⟨wd, hwd⟩ : ∃ wd, wd = w1.drew := ⟨_, rfl⟩
    have hd0 : Below w1.heap.size w1 wd := by rw [hwd]; exact (Below.refl _ _).drew
    have HD := hid hd0
    have hP := HP.out.below HCC.out hd0
    have hxd := (hd0.block bx hbxl).trans HX.out
    refine D.wp_region_mix [0, 0, 1, 2, 0, 0, 1, 2, 0, 0] (fun W => W.cell? ⟨bx, 1, none⟩ = some (.int .u64 k)) (by kernel_rfl) (by kernel_rfl) ?_ ?_
    · rw [← hwd, cell_of_row wd bx 1 _ _ _ hxd]; rfl
    rw [← hwd]
    clear hwd hd0
    have HO := hid (hP.one (Nat.le_trans hB1 HD.out.size) (fun S hS => HCC.out.leave hS HZ.out (by omega) k HK.out))
    clear hP
    repeat (first
      | (refine' C.wpMix_value _ rfl rfl _ _; rotate_left; (solve | (intro W; go_simp) | (intro W; go_simp; with_reducible rfl)); simp only [Act.put, List.setIfInBounds_toArray, List.set_cons_zero, List.set_cons_succ])
      | (refine' C.wpMix_read _ rfl rfl _ _; rotate_left; (solve | (rintro W h1; go_simp) | (rintro W h1; go_simp; with_reducible rfl)); simp only [Act.put, List.setIfInBounds_toArray, List.set_cons_zero, List.set_cons_succ]))
    refine C.wpMix_call 20 #[.pointer (some ⟨pv, 0, none⟩), .int .u64 k] (by decide) rfl (by go_simp) ?_
    refine HO.out.mono ?_
    rintro e w2 ⟨rfl, hP2, hf2⟩
    have hx2 := (hf2.block bx (Nat.lt_of_lt_of_le hbxl HD.out.size) (fun e => e.2 rfl)).trans hxd
    have HT := hid (hP2.two HCC.out (Nat.le_trans (Nat.le_trans hB1 HD.out.size) hf2.size) (fun S lv hS => RLeave_any hS k (by have := HZ.out.len; omega)))
    have HF2 := hid hf2
    clear HO hP2 hf2
    refine ⟨_, rfl, fun _ => by rw [cell_of_row w2 bx 1 _ _ _ hx2]; rfl, ?_⟩
    simp only [Act.put, List.setIfInBounds_toArray, List.set_cons_zero, List.set_cons_succ]
    repeat (first
      | (refine' C.wpMix_value _ rfl rfl _ _; rotate_left; (solve | (intro W; go_simp) | (intro W; go_simp; with_reducible rfl)); simp only [Act.put, List.setIfInBounds_toArray, List.set_cons_zero, List.set_cons_succ])
      | (refine' C.wpMix_read _ rfl rfl _ _; rotate_left; (solve | (rintro W h1; go_simp) | (rintro W h1; go_simp; with_reducible rfl)); simp only [Act.put, List.setIfInBounds_toArray, List.set_cons_zero, List.set_cons_succ]))
    refine C.wpMix_call 24 #[.pointer (some ⟨p, 0, none⟩), .int .u64 k] (by decide) rfl (by go_simp) ?_
    refine HT.out.mono ?_
    rintro e w3 ⟨rfl, hP3, hf3⟩
    have HP3 := hid hP3
    have HF3 := hid hf3
    have hx3 := (hf3.block bx (Nat.lt_of_lt_of_le (Nat.lt_of_lt_of_le hbxl HD.out.size) HF2.out.size) (fun e => e.2 rfl)).trans hx2
    clear HT hP3 hf3
    refine ⟨_, rfl, fun _ => by rw [cell_of_row w3 bx 1 _ _ _ hx3]; rfl, ?_⟩
    simp only [Act.put, List.setIfInBounds_toArray, List.set_cons_zero, List.set_cons_succ]
    repeat (first
      | (refine' C.wpMix_value _ rfl rfl _ _; rotate_left; (solve | (intro W; go_simp) | (intro W; go_simp; with_reducible rfl)); simp only [Act.put, List.setIfInBounds_toArray, List.set_cons_zero, List.set_cons_succ])
      | (refine' C.wpMix_read _ rfl rfl _ _; rotate_left; (solve | (rintro W h1; go_simp) | (rintro W h1; go_simp; with_reducible rfl)); simp only [Act.put, List.setIfInBounds_toArray, List.set_cons_zero, List.set_cons_succ]))
    refine C.wpMix_end ?_
    go_wp2_with fail
    have hb1 : Below B W wd := HB1.out.trans (HD.out.mono hB1)
    have hb2 := hb1.trans (HF2.out.below (B := B) (Nat.le_trans hB1 HD.out.size) (fun k hk => hk.1))
    go_ret
    exact ⟨rfl, HP3.out.drop HCC.out, hb2.trans (HF3.out.below (B := B) (Nat.le_trans (Nat.le_trans hB1 HD.out.size) HF2.out.size) (fun k hk => hk.1))⟩
  · have hd : doZ m k z = z.tick := by
      unfold doZ
      rw [if_neg (by omega), if_neg (by omega), if_neg (by omega)]
    have b0 : (m == 0) = false := beq_false_of_ne (by omega)
    have HZZ := hid hd
    have HO := hid (HP.out.tick HCC.out hB1 HZ.out hN)
    clear HX hd b0
    have d0 : ¬ m = 0 := by omega
    have d1 : ¬ m = 1 := by omega
    have d2 : ¬ m = 2 := by omega
    go_wp2_with (first
      | (go_at_call 18; refine HO.out.mono ?_; rintro e w2 ⟨hf2, u, rfl, ht⟩; have HF2 := hid hf2; have HT := hid ht; clear hf2 ht)
      | (go_at_call 25; refine HT.out.mono ?_; rintro e w3 ⟨hf3, u2, rfl, ht1, ht2, hp3⟩; have HF3 := hid hf3; have HP3 := hid hp3; have HSL := hid (SameLongs_told w3 u u2 _ ht1 ht2); clear hf3 hp3 ht1 ht2)
      | (go_at_call 22; refine HSL.out.mono ?_; rintro e w4 ⟨rfl, hb4⟩; have HB4 := hid hb4; clear hb4)
      | fail)
    go_ret
    have hb2 := HB1.out.trans (HF2.out.below (B := B) hB1 (fun k hk => hk.1))
    have hs2 := Nat.le_trans hB1 HF2.out.size
    have hb3 := hb2.trans (HF3.out.below (B := B) hs2 (fun k hk => hk.1))
    refine ⟨rfl, ?_, hb3.trans (HB4.out.mono (Nat.le_trans hs2 HF3.out.size))⟩
    rw [HZZ.out]
    exact (HP3.out.below HCC.out HB4.out).drop HCC.out
end
end Go.Proofs.Ytbdhjkdojgdhbaa
