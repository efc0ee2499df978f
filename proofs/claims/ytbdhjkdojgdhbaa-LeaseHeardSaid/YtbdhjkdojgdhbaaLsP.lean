/-
  LeasePlays' walk.
-/
import Derived.Test.YtbdhjkdojgdhbaaLsW
import Derived.Test.YtbdhjkdojgdhbaaLsFrame
import Derived.Test.YtbdhjkdojgdhbaaMixH
namespace Go.Proofs.Ytbdhjkdojgdhbaa
open Go Go.ChangeShapes Go.WideShapes Go.ChangeAt Go.RowKit

/-- Between two acts. -/
structure PlI (Rp : World → (Nat → Prop) → Value → Lz → Prop) (w : World) (v : Value) (p : Nat) (z : Lz) (k : Nat) (W : World) : Prop where
  pr : PrL Rp w.heap.size v p z z (fun _ => False) W
  bel : Below w.heap.size w W
  ok : ZOk k z
section
variable {Rp : World → (Nat → Prop) → Value → Lz → Prop} {w W W' : World} {v : Value} {p k : Nat} {z : Lz}
theorem PlI.no (HC : LsC Rp) (h : PlI Rp w v p z k W) (hb : Below W.heap.size W W') : PlI Rp w v p z k W' := ⟨h.pr.below HC hb, h.bel.trans (hb.mono h.bel.size), h.ok⟩
theorem PlI.do (HC : LsC Rp) (h : PlI Rp w v p z k W) (hk : k ≤ 99999) {x : OAct} (hx : OActOk x) : Calls Try.prog 10 #[v, .pointer (some ⟨p, 0, none⟩), .agg #[iv x.1, .int .u64 x.2]] W fun e w' => e = .returned (.bool true) ∧ PlI Rp w v p (doZ (x.1 % 5) x.2 z) (k + 1) w' :=
  (do_any HC h.pr h.bel.size h.ok hk x.1 x.2 hx.1 hx.2).mono (fun _ _ ⟨h1, h2, h3⟩ => ⟨h1, h2, h.bel.trans h3, h.ok.do _ _⟩)
theorem PlI.now (HC : LsC Rp) (h : PlI Rp w v p z k W) : Calls Try.prog 11 #[v] W fun e w' => e = .returned (iv z.now) ∧ PlI Rp w v p z k w' := by
  obtain ⟨S, hR⟩ := h.pr.pr
  exact (HC.now hR).mono (fun e w' ⟨h1, h2⟩ => ⟨h1, h.no HC h2⟩)
theorem PlI.left (HC : LsC Rp) (h : PlI Rp w v p z k W) (hk : k ≤ 100000) {y : Int} (hy : Hn y) : Calls Try.prog 12 #[v, .int .u64 y] W fun e w' => e = .returned (.tuple #[iv (if hasK y z.l then z.time - z.now + atK y z.l else 0), .int .i64 (if hasK y z.l then 0 else 12)]) ∧ PlI Rp w v p z k w' := by
  obtain ⟨S, hR⟩ := h.pr.pr
  exact (HC.left hR h.ok hk y hy).mono (fun e w' ⟨h1, h2⟩ => ⟨h1, h.no HC h2⟩)
theorem PlI.at_ (h : PlI Rp w v p z k W) (hk : k ≤ 100000) (y : Int) : Calls Try.prog 13 #[.pointer (some ⟨p, 0, none⟩), .int .u64 y] W fun e w' => e = .returned (iv (idxK y z.l)) ∧ W = w' := by
  obtain ⟨S, lv, hR, _⟩ := h.pr.tw
  exact RAt_any hR y (by have := h.ok.len; omega)
theorem PlI.told (HC : LsC Rp) (h : PlI Rp w v p z k W) (hk : k ≤ 100000) (m : Nat) (hm : m ≤ 100000) : Calls Try.prog 15 #[v, .int .i64 m] W fun e w' => PlI Rp w v p z k w' ∧ Below W.heap.size W w' ∧ ∃ u, e = .returned u ∧ TwE w' u (z.l.take m).length (z.l.take m) := by
  obtain ⟨S, hR⟩ := h.pr.pr
  obtain ⟨a, rfl, hA⟩ := HC.all hR h.ok hk
  exact (toldO_any hA m hm).mono (fun e w' ⟨h1, h2⟩ => ⟨h.no HC h1, h1, h2⟩)
theorem at_get {y t : Int} {l : List On} {i : Nat} (h1 : idxK y l = i) (h2 : l[i]? = some (y, t)) : atK y l = t := by
  unfold atK
  rw [h1]
  simp [List.getD, h2]
set_option maxRecDepth 100000 in
set_option maxHeartbeats 16000000 in
theorem LeasePlays_any (HC : LsC Rp) (w : World) (a b : Int) (ad : Option Addr) (c : Nat) (l : List OAct) (hl : RwA w w.heap.size ad l) (hll : l.length ≤ 9223372036854775807) :
    Calls Try.prog 3 #[iv a, iv b, .slice ad l.length c] w fun e w' => e = .returned (.bool true) ∧ Below w.heap.size w w' := by
  have HN := hid (HC.new w a b)
  have HX := hid (fun W => RNewL_any W a b)
  have HAW := hid (fun W => awakeO_any HC W)
  have HCC := hid HC
  have HL := hid hl
  clear HC hl
  by_cases h : 1 ≤ a ∧ a ≤ 1000 ∧ 1 ≤ b ∧ b ≤ 1000
  · simp only [if_pos h] at HN HX
    have hab : 1 ≤ a * b ∧ a * b ≤ 1000000 := ⟨by have := Int.mul_le_mul h.1 h.2.2.1 (by decide) (by omega); simpa using this, by have := Int.mul_le_mul h.2.1 h.2.2.2 (by omega) (by decide); simpa using this⟩
    have HAB := hid hab
    clear hab h
    obtain ⟨n, hn⟩ : ∃ n, n = l.length := ⟨_, rfl⟩
    rw [← hn] at hll ⊢
    have HNN := hid hn
    clear hn
    go_enter Try.func3, Try.ntmps3
    go_upto_region 2 with (first
      | (go_at_call 7; refine HN.out.mono ?_; rintro e w1 ⟨hb1, v, S1, rfl, hS1, hR1⟩)
      | fail)
    obtain ⟨pv, rfl⟩ := HCC.out.ptr hR1
    have HR1 := hid hR1
    have HS1 := hid hS1
    have HB1 := hid hb1
    clear HN hR1 hS1 hb1
    go_upto_region 3 with (first
      | (go_at_call 8; refine (HX.out w1).mono ?_; rintro e w2 ⟨hb2, p, S2, lv, rfl, hS2, hR2⟩)
      | fail)
    have hP : PlI Rp w (.pointer (some ⟨pv, 0, none⟩)) p ⟨a * b, 0, []⟩ 0 w2 := by
      refine ⟨⟨S1, S2, lv, HCC.out.fr HR1.out (Fr.of_below (fp := fun _ => False) hb2) (fun _ _ e => e), hR2, HS1.out, fun k hk => Nat.le_trans HB1.out.size (hS2 k hk), fun k h1 h2 => ?_, fun k hk => hk.elim⟩, HB1.out.trans (hb2.mono HB1.out.size), ⟨by simp [Rise], by simp, Int.le_refl _, by simp, ⟨by have := HAB.out.1; show (0 : Int) ≤ a * b; omega, HAB.out.2⟩, fun x hx => by simp at hx⟩⟩
      have := HCC.out.lt HR1.out k h1
      have := hS2 k h2
      omega
    obtain ⟨z, hz⟩ : ∃ z : Lz, z = ⟨a * b, 0, []⟩ := ⟨_, rfl⟩
    rw [← hz] at hP
    have HP := hid hP
    clear HX HR1 HS1 HB1 HAB hP hb2 hS2 hR2 hz
    go_wp2_with fail
    go_loopw [10] (fun i wr => ∃ (k : Nat) (z : Lz), k ≤ n ∧ k ≤ 300 ∧ i = .int .i64 k ∧ RowKit.Hid (PlI Rp w (.pointer (some ⟨pv, 0, none⟩)) p z k wr)) (fun i _ => 300 - (intOf i).toNat)
    case atStart => exact ⟨0, z, by omega, by omega, rfl, HP⟩
    case round =>
      clear HP
      obtain ⟨k, z, hkn, hk3, rfl, HI⟩ := hrel
      by_cases hgo : k < n ∧ k < 300
      · obtain ⟨hg1, hg2⟩ := hgo
        have hx : l[k]? = some (l[k]'(by rw [← HNN.out]; exact hg1)) := List.getElem?_eq_getElem _
        generalize l[k]'(by rw [← HNN.out]; exact hg1) = x at hx
        obtain ⟨ab, ao, rfl, hab⟩ := HL.out.at_ (by rw [← HNN.out]; omega)
        have hat : ∀ W, Below w.heap.size w W → AtL W ab (ao + k * 2) (aco x) := fun W hW => (HL.out.below hW).rows ab ao rfl k x hx
        have HAT := hid hat
        have HOK := hid (HL.out.ok x (List.mem_of_getElem? hx))
        clear hat hx
        go_upto_region 8 with fail
        have hd0 : Below wr.heap.size wr wr.drew := (Below.refl _ _).drew
        have HI0 := hid (HI.out.no HCC.out hd0)
        obtain ⟨zn, hzn⟩ : ∃ zn, zn = doZ (x.1 % 5) x.2 z := ⟨_, rfl⟩
        have HDO := hid (HI0.out.do HCC.out (by omega) HOK.out)
        rw [← hzn] at HDO
        have H49 := hid (HAT.out wr.drew HI0.out.bel)
        clear hzn hd0
        refine H.wp_region_mix [0, 0, 0, 0, 0, 3, 2, 0, 0, 0, 2, 0, 0, 0, 1, 0, 0] 6 (fun W => W.cell? ⟨p, 1, none⟩ = some (iv zn.now)) (by kernel_rfl) (by kernel_rfl) ?_
        clear HI
        repeat (first
          | (refine' C.wpMix_not (by decide) rfl _; simp only [Act.put, List.setIfInBounds_toArray, List.set_cons_zero, List.set_cons_succ])
          | (refine' C.wpMix_value _ rfl rfl _ _; rotate_left; (solve | (intro W; go_simp) | (intro W; go_simp; with_reducible rfl)); simp only [Act.put, List.setIfInBounds_toArray, List.set_cons_zero, List.set_cons_succ])
          | (refine' C.wpMix_read _ rfl rfl _ _; rotate_left; (solve | (rintro W h1; go_simp) | (rintro W h1; go_simp; with_reducible rfl)); simp only [Act.put, List.setIfInBounds_toArray, List.set_cons_zero, List.set_cons_succ]))
        refine C.wpMix_write (.agg (aco x).toArray) wr.drew (by decide) rfl (load_cells Try.underlying33 rfl (by kernel_rfl) rfl rfl H49.out) (fun h => by cases h) ?_
        simp only [Act.put, List.setIfInBounds_toArray, List.set_cons_zero, List.set_cons_succ]
        refine C.wpMix_call 10 #[.pointer (some ⟨pv, 0, none⟩), .pointer (some ⟨p, 0, none⟩), .agg #[iv x.1, .int .u64 x.2]] (by decide) rfl (by go_simp; rfl) ?_
        refine HDO.out.mono ?_
        rintro e w5 ⟨rfl, h5⟩
        have c5 : w5.cell? ⟨p, 1, none⟩ = some (iv zn.now) := by obtain ⟨S, lv, hR, _⟩ := h5.pr.tw; exact hR.c1
        have HNO := hid (h5.now HCC.out)
        clear HDO HI0 H49 h5
        refine ⟨_, rfl, fun _ => c5, ?_⟩
        simp only [Act.put, List.setIfInBounds_toArray, List.set_cons_zero, List.set_cons_succ]
        repeat (first
          | (refine' C.wpMix_not (by decide) rfl _; simp only [Act.put, List.setIfInBounds_toArray, List.set_cons_zero, List.set_cons_succ])
          | (refine' C.wpMix_value _ rfl rfl _ _; rotate_left; (solve | (intro W; go_simp) | (intro W; go_simp; with_reducible rfl)); simp only [Act.put, List.setIfInBounds_toArray, List.set_cons_zero, List.set_cons_succ])
          | (refine' C.wpMix_read _ rfl rfl _ _; rotate_left; (solve | (rintro W h1; go_simp) | (rintro W h1; go_simp; with_reducible rfl)); simp only [Act.put, List.setIfInBounds_toArray, List.set_cons_zero, List.set_cons_succ]))
        refine C.wpMix_call 11 #[.pointer (some ⟨pv, 0, none⟩)] (by decide) rfl (by go_simp) ?_
        refine HNO.out.mono ?_
        rintro e w6 ⟨rfl, h6⟩
        have c6 : w6.cell? ⟨p, 1, none⟩ = some (iv zn.now) := by obtain ⟨S, lv, hR, _⟩ := h6.pr.tw; exact hR.c1
        have HP6 := hid h6
        clear HNO h6 c5
        refine ⟨_, rfl, fun _ => c6, ?_⟩
        simp only [Act.put, List.setIfInBounds_toArray, List.set_cons_zero, List.set_cons_succ]
        repeat (first
          | (refine' C.wpMix_not (by decide) rfl _; simp only [Act.put, List.setIfInBounds_toArray, List.set_cons_zero, List.set_cons_succ])
          | (refine' C.wpMix_value _ rfl rfl _ _; rotate_left; (solve | (intro W; go_simp) | (intro W; go_simp; with_reducible rfl)); simp only [Act.put, List.setIfInBounds_toArray, List.set_cons_zero, List.set_cons_succ])
          | (refine' C.wpMix_read _ rfl rfl _ _; rotate_left; (solve | (rintro W h1; go_simp) | (rintro W h1; go_simp; with_reducible rfl)); simp only [Act.put, List.setIfInBounds_toArray, List.set_cons_zero, List.set_cons_succ]))
        refine C.wpMix_end ?_
        clear c6
        have e6 : w6.cell? ⟨ab, ao + k * 2 + 1, none⟩ = some (.int .u64 x.2) := HAT.out w6 HP6.out.bel 1 _ rfl
        have HLF := hid (HP6.out.left HCC.out (by omega) HOK.out.2)
        go_upto_region 12 with (first
          | (go_at_call 12; refine HLF.out.mono ?_; rintro e w7 ⟨rfl, h7⟩; have e7 : w7.cell? ⟨ab, ao + k * 2 + 1, none⟩ = some (.int .u64 x.2) := HAT.out w7 h7.bel 1 _ rfl; have HA7 := hid (h7.at_ (by omega) x.2); have HP7 := hid h7; clear h7 HLF e6)
          | (go_at_call 13; refine HA7.out.mono ?_; rintro e w8 ⟨rfl, hw⟩; subst hw; clear HA7)
          | fail)
        have HP8 := hid (HP7.out.no HCC.out (Below.refl w7.heap.size w7).drew)
        clear e7 HP6 HP7
        rcases hh : hasK x.2 zn.l with _ | _
        · have hi := idx_no hh
          rw [hi]
          simp only [Bool.false_eq_true, if_false]
          clear hi hh
          refine D.wp_region_mix [0, 0, 0, 0, 0, 0, 0, 0, 0, 0, 0, 0, 0, 0, 0, 0, 0, 0, 0, 0, 0, 0, 0, 0, 0, 0, 0, 0, 0, 0, 0, 0, 0, 0, 0, 0, 0, 0, 0, 0] (fun _ => True) (by kernel_rfl) (by kernel_rfl) trivial ?_
          repeat (first
            | (refine' C.wpMix_not (by decide) rfl _; simp only [Act.put, List.setIfInBounds_toArray, List.set_cons_zero, List.set_cons_succ])
            | (refine' C.wpMix_value _ rfl rfl _ _; rotate_left; (solve | (intro W; go_simp) | (intro W; go_simp; with_reducible rfl)); simp only [Act.put, List.setIfInBounds_toArray, List.set_cons_zero, List.set_cons_succ])
            | (refine' C.wpMix_read _ rfl rfl _ _; rotate_left; (solve | (rintro W h1; go_simp) | (rintro W h1; go_simp; with_reducible rfl)); simp only [Act.put, List.setIfInBounds_toArray, List.set_cons_zero, List.set_cons_succ]))
          refine C.wpMix_end ?_
          go_wp2_with fail
          go_roundw
          case rel => exact ⟨k + 1, zn, by omega, by omega, by go_num, HP8⟩
          case measure => simp [intOf]; omega
        · obtain ⟨i, hi, hil, t, hit⟩ := idx_has hh
          rw [at_get hi hit, hi]
          simp only [if_true]
          have hok := HP8.out.ok
          have hb := hok.heard _ (List.mem_of_getElem? hit)
          have di0 : decide ((i : Int) < 0) = false := decide_eq_false (by omega)
          have di1 : decide (0 ≤ (i : Int)) = true := decide_eq_true (by omega)
          have hs1 := IntWalk.i64_in (zn.time - zn.now) (by have := hok.time; have := hok.now0; have := hok.nowN; omega)
          have hs2 := IntWalk.i64_in (zn.time - zn.now + t) (by have := hok.time; have := hok.now0; have := hok.nowN; simp only at hb; omega)
          obtain ⟨S, lv, hR, _⟩ := HP8.out.pr.tw
          obtain ⟨g, c', hlv, _, _, e1⟩ := hR.at_ hit
          have c0 := hR.c0
          have c1 := hR.c1
          have c2 := hR.c2
          rw [hlv] at c2
          simp only at e1
          have hln := hok.len
          clear hok hb hR hlv hi hh hit
          obtain ⟨q, hq⟩ : ∃ q, q = zn.l.length := ⟨_, rfl⟩
          rw [← hq] at c2 hil hln
          clear hq
          refine D.wp_region_mix [0, 0, 0, 0, 0, 0, 0, 0, 0, 0, 0, 0, 0, 0, 0, 0, 0, 0, 1, 0, 0, 0, 1, 0, 0, 0, 0, 1, 0, 0, 0, 1, 0, 0, 0, 0, 0, 0, 0, 0] (fun W => W.cell? ⟨p, 0, none⟩ = some (iv zn.time) ∧ W.cell? ⟨p, 1, none⟩ = some (iv zn.now) ∧ W.cell? ⟨p, 2, none⟩ = some (.slice (some ⟨g, 0, none⟩) q c') ∧ W.cell? ⟨g, i * 2 + 1, none⟩ = some (iv t)) (by kernel_rfl) (by kernel_rfl) ⟨c0, c1, c2, e1⟩ ?_
          clear c0 c1 c2 e1
          repeat (first
            | (refine' C.wpMix_not (by decide) rfl _; simp only [Act.put, List.setIfInBounds_toArray, List.set_cons_zero, List.set_cons_succ])
            | (refine' C.wpMix_value _ rfl rfl _ _; rotate_left; (solve | (intro W; go_simp) | (intro W; go_simp; with_reducible rfl)); simp only [Act.put, List.setIfInBounds_toArray, List.set_cons_zero, List.set_cons_succ])
            | (refine' C.wpMix_read _ rfl rfl _ _; rotate_left; (solve | (rintro W ⟨h1, h2, h3, h4⟩; go_simp) | (rintro W ⟨h1, h2, h3, h4⟩; go_simp; with_reducible rfl)); simp only [Act.put, List.setIfInBounds_toArray, List.set_cons_zero, List.set_cons_succ]))
          refine C.wpMix_end ?_
          clear hs1 hs2
          go_wp2_with fail
          go_roundw
          case rel => exact ⟨k + 1, zn, by omega, by omega, by go_num, HP8⟩
          case measure => simp [intOf]; omega
      · have hlt2 : k = n ∨ (k = 300 ∧ 300 < n) := by omega
        have HD := hid (HI.out.no HCC.out (Below.refl wr.heap.size wr).drew)
        have HTD := hid (HD.out.told HCC.out (by omega) 999 (by omega))
        have h999 : z.l.take 999 = z.l := List.take_of_length_le (by have := HD.out.ok.len; omega)
        rw [h999] at HTD
        obtain ⟨S, lv, hR, hSx⟩ := HD.out.pr.tw
        have hTw : ∀ W, Below wr.drew.heap.size wr.drew W → W.cell? ⟨p, 2, none⟩ = some lv ∧ TwE W lv z.l.length z.l := fun W hW => by
          have h2 := hR.no (Fr.of_below hW)
          exact ⟨h2.c2, TwE.of h2.row⟩
        have HTW := hid hTw
        have c2 := (hTw wr.drew (Below.refl _ _)).1
        have HN9 := hid HD.out.ok.len
        clear hgo HI h999 hR hSx hTw
        rcases hlt2 with rfl | ⟨rfl, hn3⟩
        · go_upto_region 14 with fail
          refine D.wp_region_mix [0, 0, 0, 0, 2, 0, 0, 0, 1, 2, 0, 0, 3, 0, 0] (fun W => W.cell? ⟨p, 2, none⟩ = some lv) (by kernel_rfl) (by kernel_rfl) c2 ?_
          repeat (first
            | (refine' C.wpMix_not (by decide) rfl _; simp only [Act.put, List.setIfInBounds_toArray, List.set_cons_zero, List.set_cons_succ])
            | (refine' C.wpMix_value _ rfl rfl _ _; rotate_left; (solve | (intro W; go_simp) | (intro W; go_simp; with_reducible rfl)); simp only [Act.put, List.setIfInBounds_toArray, List.set_cons_zero, List.set_cons_succ])
            | (refine' C.wpMix_read _ rfl rfl _ _; rotate_left; (solve | (rintro W h1; go_simp) | (rintro W h1; go_simp; with_reducible rfl)); simp only [Act.put, List.setIfInBounds_toArray, List.set_cons_zero, List.set_cons_succ]))
          refine C.wpMix_call 15 #[.pointer (some ⟨pv, 0, none⟩), .int .i64 999] (by decide) rfl (by go_simp) ?_
          refine HTD.out.mono ?_
          rintro e w4 ⟨h4, hb4, u, rfl, ht4⟩
          obtain ⟨k4, t4⟩ := HTW.out w4 hb4
          have HSM := hid (sameO_any w4 u lv z.l.length z.l ht4 t4 (by have := HN9.out; omega))
          have HB4 := hid hb4
          have HBW := hid h4.bel
          clear h4 hb4 ht4 t4 HTD
          refine ⟨_, rfl, fun _ => k4, ?_⟩
          simp only [Act.put, List.setIfInBounds_toArray, List.set_cons_zero, List.set_cons_succ]
          repeat (first
            | (refine' C.wpMix_not (by decide) rfl _; simp only [Act.put, List.setIfInBounds_toArray, List.set_cons_zero, List.set_cons_succ])
            | (refine' C.wpMix_value _ rfl rfl _ _; rotate_left; (solve | (intro W; go_simp) | (intro W; go_simp; with_reducible rfl)); simp only [Act.put, List.setIfInBounds_toArray, List.set_cons_zero, List.set_cons_succ])
            | (refine' C.wpMix_read _ rfl rfl _ _; rotate_left; (solve | (rintro W h1; go_simp) | (rintro W h1; go_simp; with_reducible rfl)); simp only [Act.put, List.setIfInBounds_toArray, List.set_cons_zero, List.set_cons_succ]))
          refine C.wpMix_call 14 #[u, lv] (by decide) rfl (by go_simp) ?_
          refine HSM.out.mono ?_
          rintro e w5 ⟨rfl, hb5⟩
          have k5 := (HTW.out w5 (HB4.out.trans (hb5.mono HB4.out.size))).1
          have HB5 := hid (HBW.out.trans (hb5.mono HBW.out.size))
          have HA5 := hid (HAW.out w5)
          clear hb5 HSM k4
          refine ⟨_, rfl, fun _ => k5, ?_⟩
          simp only [Act.put, List.setIfInBounds_toArray, List.set_cons_zero, List.set_cons_succ]
          repeat (first
            | (refine' C.wpMix_not (by decide) rfl _; simp only [Act.put, List.setIfInBounds_toArray, List.set_cons_zero, List.set_cons_succ])
            | (refine' C.wpMix_value _ rfl rfl _ _; rotate_left; (solve | (intro W; go_simp) | (intro W; go_simp; with_reducible rfl)); simp only [Act.put, List.setIfInBounds_toArray, List.set_cons_zero, List.set_cons_succ])
            | (refine' C.wpMix_read _ rfl rfl _ _; rotate_left; (solve | (rintro W h1; go_simp) | (rintro W h1; go_simp; with_reducible rfl)); simp only [Act.put, List.setIfInBounds_toArray, List.set_cons_zero, List.set_cons_succ]))
          refine C.wpMix_call 9 #[] (by decide) rfl (by go_simp) ?_
          refine HA5.out.mono ?_
          rintro e w6 ⟨rfl, hb6⟩
          have HB6 := hid (HB5.out.trans (hb6.mono HB5.out.size))
          clear hb6 HA5
          refine ⟨_, rfl, (fun h => by cases h), ?_⟩
          simp only [Act.put, List.setIfInBounds_toArray, List.set_cons_zero, List.set_cons_succ]
          repeat (first
            | (refine' C.wpMix_not (by decide) rfl _; simp only [Act.put, List.setIfInBounds_toArray, List.set_cons_zero, List.set_cons_succ])
            | (refine' C.wpMix_value _ rfl rfl _ _; rotate_left; (solve | (intro W; go_simp) | (intro W; go_simp; with_reducible rfl)); simp only [Act.put, List.setIfInBounds_toArray, List.set_cons_zero, List.set_cons_succ])
            | (refine' C.wpMix_read _ rfl rfl _ _; rotate_left; (solve | (rintro W h1; go_simp) | (rintro W h1; go_simp; with_reducible rfl)); simp only [Act.put, List.setIfInBounds_toArray, List.set_cons_zero, List.set_cons_succ]))
          refine C.wpMix_end ?_
          go_wp2_with fail
          go_ret
          exact ⟨rfl, HB6.out⟩
        · have d3 : decide ((300 : Int) < (n : Int)) = true := decide_eq_true (by omega)
          go_upto_region 14 with fail
          refine D.wp_region_mix [0, 0, 0, 0, 2, 0, 0, 0, 1, 2, 0, 0, 3, 0, 0] (fun W => W.cell? ⟨p, 2, none⟩ = some lv) (by kernel_rfl) (by kernel_rfl) c2 ?_
          repeat (first
            | (refine' C.wpMix_not (by decide) rfl _; simp only [Act.put, List.setIfInBounds_toArray, List.set_cons_zero, List.set_cons_succ])
            | (refine' C.wpMix_value _ rfl rfl _ _; rotate_left; (solve | (intro W; go_simp) | (intro W; go_simp; with_reducible rfl)); simp only [Act.put, List.setIfInBounds_toArray, List.set_cons_zero, List.set_cons_succ])
            | (refine' C.wpMix_read _ rfl rfl _ _; rotate_left; (solve | (rintro W h1; go_simp) | (rintro W h1; go_simp; with_reducible rfl)); simp only [Act.put, List.setIfInBounds_toArray, List.set_cons_zero, List.set_cons_succ]))
          refine C.wpMix_call 15 #[.pointer (some ⟨pv, 0, none⟩), .int .i64 999] (by decide) rfl (by go_simp) ?_
          refine HTD.out.mono ?_
          rintro e w4 ⟨h4, hb4, u, rfl, ht4⟩
          obtain ⟨k4, t4⟩ := HTW.out w4 hb4
          have HSM := hid (sameO_any w4 u lv z.l.length z.l ht4 t4 (by have := HN9.out; omega))
          have HB4 := hid hb4
          have HBW := hid h4.bel
          clear h4 hb4 ht4 t4 HTD
          refine ⟨_, rfl, fun _ => k4, ?_⟩
          simp only [Act.put, List.setIfInBounds_toArray, List.set_cons_zero, List.set_cons_succ]
          repeat (first
            | (refine' C.wpMix_not (by decide) rfl _; simp only [Act.put, List.setIfInBounds_toArray, List.set_cons_zero, List.set_cons_succ])
            | (refine' C.wpMix_value _ rfl rfl _ _; rotate_left; (solve | (intro W; go_simp) | (intro W; go_simp; with_reducible rfl)); simp only [Act.put, List.setIfInBounds_toArray, List.set_cons_zero, List.set_cons_succ])
            | (refine' C.wpMix_read _ rfl rfl _ _; rotate_left; (solve | (rintro W h1; go_simp) | (rintro W h1; go_simp; with_reducible rfl)); simp only [Act.put, List.setIfInBounds_toArray, List.set_cons_zero, List.set_cons_succ]))
          refine C.wpMix_call 14 #[u, lv] (by decide) rfl (by go_simp) ?_
          refine HSM.out.mono ?_
          rintro e w5 ⟨rfl, hb5⟩
          have k5 := (HTW.out w5 (HB4.out.trans (hb5.mono HB4.out.size))).1
          have HB5 := hid (HBW.out.trans (hb5.mono HBW.out.size))
          have HA5 := hid (HAW.out w5)
          clear hb5 HSM k4
          refine ⟨_, rfl, fun _ => k5, ?_⟩
          simp only [Act.put, List.setIfInBounds_toArray, List.set_cons_zero, List.set_cons_succ]
          repeat (first
            | (refine' C.wpMix_not (by decide) rfl _; simp only [Act.put, List.setIfInBounds_toArray, List.set_cons_zero, List.set_cons_succ])
            | (refine' C.wpMix_value _ rfl rfl _ _; rotate_left; (solve | (intro W; go_simp) | (intro W; go_simp; with_reducible rfl)); simp only [Act.put, List.setIfInBounds_toArray, List.set_cons_zero, List.set_cons_succ])
            | (refine' C.wpMix_read _ rfl rfl _ _; rotate_left; (solve | (rintro W h1; go_simp) | (rintro W h1; go_simp; with_reducible rfl)); simp only [Act.put, List.setIfInBounds_toArray, List.set_cons_zero, List.set_cons_succ]))
          refine C.wpMix_call 9 #[] (by decide) rfl (by go_simp) ?_
          refine HA5.out.mono ?_
          rintro e w6 ⟨rfl, hb6⟩
          have HB6 := hid (HB5.out.trans (hb6.mono HB5.out.size))
          clear hb6 HA5
          refine ⟨_, rfl, (fun h => by cases h), ?_⟩
          simp only [Act.put, List.setIfInBounds_toArray, List.set_cons_zero, List.set_cons_succ]
          repeat (first
            | (refine' C.wpMix_not (by decide) rfl _; simp only [Act.put, List.setIfInBounds_toArray, List.set_cons_zero, List.set_cons_succ])
            | (refine' C.wpMix_value _ rfl rfl _ _; rotate_left; (solve | (intro W; go_simp) | (intro W; go_simp; with_reducible rfl)); simp only [Act.put, List.setIfInBounds_toArray, List.set_cons_zero, List.set_cons_succ])
            | (refine' C.wpMix_read _ rfl rfl _ _; rotate_left; (solve | (rintro W h1; go_simp) | (rintro W h1; go_simp; with_reducible rfl)); simp only [Act.put, List.setIfInBounds_toArray, List.set_cons_zero, List.set_cons_succ]))
          refine C.wpMix_end ?_
          go_wp2_with fail
          go_ret
          exact ⟨rfl, HB6.out⟩
  · simp only [if_neg h] at HN HX
    clear h
    go_enter Try.func3, Try.ntmps3
    go_wp2_with (first
      | (go_at_call 7; refine HN.out.mono ?_; rintro e w1 ⟨hb1, rfl⟩; have HB1 := hid hb1; have HX1 := hid (HX.out w1); clear hb1 HN HX)
      | (go_at_call 8; refine HX1.out.mono ?_; rintro e w2 ⟨hb2, rfl⟩; have HB2 := hid (HB1.out.trans (hb2.mono HB1.out.size)); have HA := hid (HAW.out w2); clear hb2 HX1 HAW)
      | (go_at_call 9; refine HA.out.mono ?_; rintro e w3 ⟨rfl, hb3⟩; have HB3 := hid (HB2.out.trans (hb3.mono HB2.out.size)); clear hb3 HA)
      | fail)
    go_ret
    exact ⟨rfl, HB3.out⟩
end
end Go.Proofs.Ytbdhjkdojgdhbaa
