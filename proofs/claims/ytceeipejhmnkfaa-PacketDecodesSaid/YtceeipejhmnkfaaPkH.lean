/-
  The plain twin's Decode of a packet: its beginning.
-/
import Derived.Test.YtceeipejhmnkfaaPkL
import Derived.Test.YtceeipejhmnkfaaSureA
import Derived.Test.YtceeipejhmnkfaaWrSame
import Derived.Test.YtceeipejhmnkfaaObS
namespace Go.Proofs.Ytceeipejhmnkfaa
open Go Go.ChangeShapes Go.WideShapes Go.ChangeAt Go.RowKit

set_option maxRecDepth 100000 in
/-- A packet made of its first fields. -/
theorem exec_buildP {o : Oper} {f : Operand → Value} {W : World} {p0 p1 p2 p3 : Operand} {k fr to sq : Int} (ho : o.op = .build 28 #[(0, p0), (1, p1), (2, p2), (3, p3)])
    (h0 : f p0 = .int .i64 k) (h1 : f p1 = .int .i64 fr) (h2 : f p2 = .int .i64 to) (h3 : f p3 = .int .u64 sq) :
    (execOp f o).run Try.prog W = .ok (.value (.agg (pkA ⟨k, fr, to, sq, 0, g0, 0, 0, 0, []⟩ none 0))) W := by
  unfold execOp
  simp only [ho]
  simp only [List.map_toArray, List.map_cons, List.map_nil, h0, h1, h2, h3]
  go_simp
  rfl
def PS (w : World) (b : List Int) (bb oo : Nat) (W : World) : Prop := InP W w.heap.size pkZ none 0 ∧ Bs W W.heap.size (some ⟨bb, oo, none⟩) b ∧ Below w.heap.size w W
theorem PS.call {w W W' : World} {b : List Int} {bb oo : Nat} (h : PS w b bb oo W) (hB : Below W.heap.size W W') : PS w b bb oo W' := ⟨h.1.below hB, (h.2.1.below hB).mono hB.size, below_on h.2.2 hB⟩
def DecP (w : World) (b : List Int) (e : Ending) (w' : World) : Prop :=
  ∃ a c, e = .returned (.tuple #[.agg (pkA (decP b).1 a c), .bool (decP b).2]) ∧ RwO w' w'.heap.size a (decP b).1.rs ∧ ((decP b).1.rs.length ≤ c ∧ c ≤ 9223372036854775807) ∧ Below w.heap.size w w'
set_option maxRecDepth 100000 in
theorem pdec_ret {Q : Ending → World → Prop} {a : Act} {W : World} {g : Nat} {u : Value} {q : Pk} {ar : Option Addr} {c : Nat} (h2 : a.tmps.getD 2 undef = .pointer (some ⟨g, 0, none⟩)) (h3 : a.tmps.getD 3 undef = u) (hd : a.defers = [])
    (hg : InP W g q ar c) (h16 : q.ip.length = 16) (h : Q (.returned (.tuple #[.agg (pkA q ar c), u])) W) : bodyPost Try.prog Try.f15 Q .ret a W := by
  refine bodyPost_ret (v := .tuple #[.agg (pkA q ar c), u]) ?_ hd h
  rw [results_cell_tmp (fn := Try.f15) (p := 2) (q := 3) rfl a.tmps W g 28 (pkA q ar c) (0, 0) _ h2 hg Try.underlying28 rfl (by rw [pkA_size h16]; exact szP), h3]
theorem DecP.none {w W : World} {b : List Int} (h : decP b = (pkZ, false)) (hB : Below w.heap.size w W) : DecP w b (.returned (.tuple #[.agg (pkA pkZ none 0), .bool false])) W := by
  unfold DecP
  rw [h]
  exact ⟨_, 0, rfl, RwO.nil _ _, ⟨Nat.le_refl _, by omega⟩, hB⟩
theorem DecP.some {w W : World} {b : List Int} {q : Pk} {a : Option Addr} {c : Nat} (h : decP b = (q, true)) (hr : RwO W W.heap.size a q.rs) (hc : q.rs.length ≤ c ∧ c ≤ 9223372036854775807) (hB : Below w.heap.size w W) : DecP w b (.returned (.tuple #[.agg (pkA q a c), .bool true])) W := by
  unfold DecP
  rw [h]
  exact ⟨a, c, rfl, hr, hc, hB⟩
set_option maxRecDepth 100000 in
set_option maxHeartbeats 4000000 in
theorem refPkDecode_any (w : World) (ad : Option Addr) (cap n : Nat) (b : List Int) (hb : Bs w w.heap.size ad b) (hn : n = b.length) (hby : Byt b) (hc : n ≤ cap) (hl : n ≤ 140737488351232) : Calls Try.prog 15 #[.slice ad n cap] w (DecP w b) := by
  obtain ⟨w1, hw1⟩ : ∃ w1, w1 = w.alloc (.cells (pkA pkZ none 0) 28) := ⟨_, rfl⟩
  have hz : InP w1 w.heap.size pkZ none 0 := by rw [hw1]; exact heap_alloc_new _ _
  have hB : Below w.heap.size w w1 := by rw [hw1]; exact (Below.refl _ _).alloc (Nat.le_refl _) _
  have HZ := hid hz
  have HB := hid hB
  have HW1 := hid hw1
  have HIZ := hid (show (Try.prog.info? 28).map (·.size) = some (pkA pkZ none 0).size by rw [pkA_size rfl]; exact szP)
  clear hz hB hw1
  by_cases h1 : n < 16
  · have hd : decide ((n : Int) < 16) = true := by simp; omega
    have HE : RowKit.Hid (decP b = (pkZ, false)) := hid (by unfold decP; rw [if_pos (by unfold shortP; omega)])
    unfold DecP
    rw [HE.out]
    clear HE hb hn hby hl hc
    go_enter Try.func15, Try.ntmps15
    go_upto_region 1 with (fail)
    change Code.wp _ _ _ _ (w.alloc (.cells (pkA pkZ none 0) 28))
    rw [← HW1.out]
    clear HW1
    go_wp2_with (first | ((with_reducible refine at_op ⟨none, .store 28 (.tmp 2) (.tmp 10), _, _, _, _⟩ ?_); refine wpList_store_row rfl 28 _ _ rfl w.heap.size (pkA pkZ none 0) rfl rfl 28 (pkA pkZ none 0) HZ.out HIZ.out rfl (pkA_one _ _ _) ?_))
    refine pdec_ret rfl rfl rfl (setRow_heap _ _ _ _ _ _ HZ.out) rfl ⟨none, 0, rfl, RwO.nil _ _, ⟨Nat.le_refl _, by omega⟩, below_setRow HB.out _ _ (Nat.le_refl _)⟩
  · have hd : decide ((n : Int) < 16) = false := by simp; omega
    obtain ⟨bb, oo, rfl, hbb⟩ := hb.some (by omega)
    have hs : PS w b bb oo w1 := ⟨HZ.out, (hb.below HB.out).mono (by have := HB.out.size; omega), HB.out⟩
    have HS := hid hs
    have HBY := hid hby
    have HN := hid hn
    have hn16 : 16 ≤ n := by omega
    have C1 : ∀ W, PS w b bb oo W → Calls Try.prog 34 #[.slice (some ⟨bb, oo, none⟩) n cap, .int .i64 8] W fun e W' => e = .returned (.int .u64 (numP b 8)) ∧ Below W.heap.size W W' := fun W hS =>
      (pkNum_any W (some ⟨bb, oo, none⟩) cap n 8 b hS.2.1 hn hby hl rfl (by omega)).mono fun _ _ hh => ⟨hh.1, by rw [← hh.2]; exact Below.refl _ _⟩
    have HC1 := hid C1
    have HA0 := hid (show ∀ W, PS w b bb oo W → W.cell? ⟨bb, oo, none⟩ = some (.int .u8 (b.getD 0 0)) from fun W hS => by have h1 := hS.2.1.cell (j := 0) (by omega); rwa [Nat.add_zero] at h1)
    have HA1 := hid (fun W (hS : PS w b bb oo W) => hS.2.1.cell (j := 1) (by omega))
    have HA2 := hid (fun W (hS : PS w b bb oo W) => hS.2.1.cell (j := 2) (by omega))
    have g0' := getD_byt hby 0
    have g1' := getD_byt hby 1
    have g2' := getD_byt hby 2
    have hw0 : IntKind.i64.wrap (b.getD 0 0) = b.getD 0 0 := IntWalk.i64_in _ ⟨by omega, by omega⟩
    have hw1 : IntKind.i64.wrap (b.getD 1 0) = b.getD 1 0 := IntWalk.i64_in _ ⟨by omega, by omega⟩
    have hw2 : IntKind.i64.wrap (b.getD 2 0) = b.getD 2 0 := IntWalk.i64_in _ ⟨by omega, by omega⟩
    clear hb hn hby h1 hs C1 g0' g1' g2' HZ HB
    go_enter Try.func15, Try.ntmps15
    go_upto_region 3 with (fail)
    change Code.wp _ _ _ _ (w.alloc (.cells (pkA pkZ none 0) 28))
    rw [← HW1.out]
    clear HW1
    have hq0 : RowKit.Hid (∃ q0 : Pk, q0 = ⟨b.getD 0 0, b.getD 1 0, b.getD 2 0, numP b 8, 0, g0, 0, 0, 0, []⟩) := hid ⟨_, rfl⟩
    obtain ⟨y0, hy0⟩ : ∃ y, y = b.getD 0 0 := ⟨_, rfl⟩
    obtain ⟨y1, hy1⟩ : ∃ y, y = b.getD 1 0 := ⟨_, rfl⟩
    obtain ⟨y2, hy2⟩ : ∃ y, y = b.getD 2 0 := ⟨_, rfl⟩
    obtain ⟨y8, hy8⟩ : ∃ y, y = numP b 8 := ⟨_, rfl⟩
    rw [← hy0, ← hy1, ← hy2, ← hy8] at hq0
    rw [← hy0] at HA0 hw0
    rw [← hy1] at HA1 hw1
    rw [← hy2] at HA2 hw2
    rw [← hy8] at HC1
    have HY := hid (And.intro hy0 (And.intro hy1 (And.intro hy2 hy8)))
    clear hy0 hy1 hy2 hy8
    refine A.wp_region_new' 15 _ _ rfl (PS w b bb oo) (fun g W => InP W g pkZ none 0 ∧ w.heap.size < g) (by kernel_rfl) (by kernel_rfl) rfl rfl ⟨HS.out.1, ⟨HS.out.2.1.some, HS.out.2.1.cells⟩, HS.out.2.2.drew⟩ ?hT ?hal ?_
    case hT => exact fun g W W' hh hF => ⟨hh.1.fr' hF (fun h => h), hh.2⟩
    case hal =>
      intro a W hS
      refine ⟨W.alloc (.cells (pkA pkZ none 0) 28), ?_, hS.call ((Below.refl _ _).alloc (Nat.le_refl _) _), heap_alloc_new _ _, hS.1.lt⟩
      go_simp
      rfl
    have n0 : 0 < n := by omega
    simp only [List.take_succ_cons, List.take_zero]
    repeat (first
      | ((with_reducible refine A.atS ⟨some 13, _, _, _, _, _⟩ ?_); refine A.wpSure_read (.int .u8 y0) rfl (fun W hS => by have e1 := HA0.out W hS; go_simp) ?_; simp only [Act.put, List.setIfInBounds_toArray, List.set_cons_zero, List.set_cons_succ])
      | ((with_reducible refine A.atS ⟨some 16, _, _, _, _, _⟩ ?_); refine A.wpSure_value (.pointer (some ⟨bb, oo + 1, none⟩)) rfl (fun W => by go_simp; intro h; omega) ?_; simp only [Act.put, List.setIfInBounds_toArray, List.set_cons_zero, List.set_cons_succ])
      | ((with_reducible refine A.atS ⟨some 20, _, _, _, _, _⟩ ?_); refine A.wpSure_value (.pointer (some ⟨bb, oo + 2, none⟩)) rfl (fun W => by go_simp; intro h; omega) ?_; simp only [Act.put, List.setIfInBounds_toArray, List.set_cons_zero, List.set_cons_succ])
      | ((with_reducible refine A.atS ⟨some 17, _, _, _, _, _⟩ ?_); refine A.wpSure_read (.int .u8 y1) rfl (fun W hS => by have e1 := HA1.out W hS; go_simp) ?_; simp only [Act.put, List.setIfInBounds_toArray, List.set_cons_zero, List.set_cons_succ])
      | ((with_reducible refine A.atS ⟨some 21, _, _, _, _, _⟩ ?_); refine A.wpSure_read (.int .u8 y2) rfl (fun W hS => by have e1 := HA2.out W hS; go_simp) ?_; simp only [Act.put, List.setIfInBounds_toArray, List.set_cons_zero, List.set_cons_succ])
      | ((with_reducible refine A.atS ⟨some 24, _, _, _, _, _⟩ ?_); refine A.wpSure_call _ _ _ rfl ?_ (fun W hS => HC1.out W hS) (fun W W' hS hB => hS.call hB) ?_; (solve | (intro W; go_simp)); simp only [Act.put, List.setIfInBounds_toArray, List.set_cons_zero, List.set_cons_succ])
      | ((with_reducible refine A.atS ⟨some 25, _, _, _, _, _⟩ ?_); refine A.wpSure_value (.agg (pkA ⟨y0, y1, y2, y8, 0, g0, 0, 0, 0, []⟩ none 0)) rfl (fun W => exec_buildP rfl rfl rfl rfl rfl) ?_; simp only [Act.put, List.setIfInBounds_toArray, List.set_cons_zero, List.set_cons_succ])
      | (refine' A.wpSure_value _ rfl _ _; rotate_left; (solve | (intro W; go_simp) | (intro W; go_simp; with_reducible rfl)); simp only [Act.put, List.setIfInBounds_toArray, List.set_cons_zero, List.set_cons_succ]))
    refine A.wpSure_end ?_
    intro g W hS hg
    obtain ⟨hgi, hgl⟩ := hg
    obtain ⟨q0, hq⟩ := hq0.out
    rw [← hq]
    have h16 : q0.ip.length = 16 := by rw [hq]; rfl
    have hrs : q0.rs = [] := by rw [hq]
    obtain ⟨W2, hW2⟩ : ∃ W2, W2 = W.setRow g (pkA q0 none 0) := ⟨_, rfl⟩
    have hg2 : InP W2 g q0 none 0 := by rw [hW2]; exact setRow_heap _ _ _ _ _ _ hgi
    have hf2 : Fr (fun j => j = g) W W2 := by rw [hW2]; exact Fr.of_setRow _ _ _
    have hS2 : DSt w b bb oo g W2 q0 none 0 := ⟨hS.1.fr' hf2 (by omega), hg2, hS.2.1.fr hf2 (fun b' o' he => by cases he; omega), hS.2.2.trans (hf2.below hS.2.2.size (fun k hk => by omega)), hgl, by rw [hrs]; exact RwO.nil _ _, hbb, fun _ _ h => by cases h⟩
    refine wpList_store_row rfl 28 _ _ rfl g (pkA q0 none 0) rfl rfl 28 (pkA pkZ none 0) hgi (by rw [pkA_size h16]; exact szP) (by rw [pkA_size h16, pkA_size rfl]) (pkA_one _ _ _) ?_
    rw [← hW2]
    have HST := hid hS2
    have HQ := hid (show q0 = ⟨b.getD 0 0, b.getD 1 0, b.getD 2 0, numP b 8, 0, g0, 0, 0, 0, []⟩ by rw [hq, HY.out.1, HY.out.2.1, HY.out.2.2.1, HY.out.2.2.2])
    clear hW2 hg2 hf2 hS2 hS hgi hgl HC1 HA0 HA1 HA2 HS W hq0 hq hw0 hw1 hw2
    simp only [Act.put]
    have hk0 : 0 ≤ q0.ki ∧ q0.ki ≤ 255 := by rw [HQ.out]; exact getD_byt HBY.out 0
    have c0 := HST.out.hq.c0
    by_cases hother : q0.ki ≠ 1 ∧ q0.ki ≠ 2 ∧ q0.ki ≠ 3 ∧ q0.ki ≠ 4
    · have e1 : (q0.ki == 1) = false := by simp; omega
      have e2 : (q0.ki == 2) = false := by simp; omega
      have e3 : (q0.ki == 3) = false := by simp; omega
      have e4 : (q0.ki == 4) = false := by simp; omega
      have hns : ¬ shortP b := by
        have h1 : b.getD 0 0 = q0.ki := by rw [HQ.out]
        have h2 := HN.out
        unfold shortP; omega
      have hraw : rawP b = q0 := by
        have h1 : b.getD 0 0 = q0.ki := by rw [HQ.out]
        refine pk_ext h1 (by rw [HQ.out]; rfl) (by rw [HQ.out]; rfl) (by rw [HQ.out]; rfl) ?_ ?_ ?_ ?_ ?_ ?_
        · simp only [rawP]; rw [if_neg (by omega), HQ.out]
        · simp only [rawP]; rw [if_neg (by omega), if_neg (by omega), HQ.out]
        · simp only [rawP]; rw [if_neg (by omega), HQ.out]
        · simp only [rawP]; rw [if_neg (by omega), if_neg (by omega), HQ.out]
        · simp only [rawP]; rw [if_neg (by omega), HQ.out]
        · simp only [rawP]; rw [if_neg (by omega), HQ.out]
      have HE := hid (show decP b = if rightP q0 = true ∧ formP q0 = b then (q0, true) else (pkZ, false) by rw [decP, if_neg hns, hraw])
      have HOK := hid (show PkOk q0 by rw [← hraw]; exact raw_ok HBY.out)
      have HCL := hid (show q0.rs.length ≤ 0 ∧ 0 ≤ 9223372036854775807 by rw [hrs]; exact ⟨Nat.le_refl _, by omega⟩)
      clear hns hraw hother hk0 HQ h16 hrs
      have CR := hid (pkRight_any q0 HOK.out none 0 W2 HST.out.hr HCL.out)
      have HIP := hid HOK.out.ip.len
      cases hr : rightP q0 with
      | false =>
        rw [hr] at CR HE
        have HE2 : RowKit.Hid (decP b = (pkZ, false)) := hid (by rw [HE.out]; simp)
        clear HE hr
        go_wp2_with (first | ((with_reducible refine at_op ⟨some 89, _, _, _, _, _⟩ ?_); refine wpList_runW rfl (.agg (pkA q0 none 0)) (load_p rfl rfl HST.out.hq HIP.out) ?_) | fail)
        refine CR.out.mono ?_
        rintro e W3 ⟨rfl, hb3⟩
        have HS3 := hid (HST.out.call hb3)
        clear hb3 HST CR
        go_wp2_with (first | ((with_reducible refine at_op ⟨none, .store 28 (.tmp 2) (.tmp 99), _, _, _, _⟩ ?_); refine wpList_store_row rfl 28 _ _ rfl w.heap.size (pkA pkZ none 0) rfl rfl 28 (pkA pkZ none 0) HS3.out.hz HIZ.out rfl (pkA_one _ _ _) ?_) | fail)
        refine pdec_ret (u := .bool false) rfl rfl rfl (setRow_heap _ _ _ _ _ _ HS3.out.hz) rfl (DecP.none HE2.out (below_setRow HS3.out.hw _ _ (Nat.le_refl _)))
      | true =>
        have HRI := hid hr
        rw [hr] at CR HE
        clear hr
        go_wp2_with (first | ((with_reducible refine at_op ⟨some 89, _, _, _, _, _⟩ ?_); refine wpList_runW rfl (.agg (pkA q0 none 0)) (load_p rfl rfl HST.out.hq HIP.out) ?_) | fail)
        refine CR.out.mono ?_
        rintro e W3 ⟨rfl, hb3⟩
        have HS3 := hid (HST.out.call hb3)
        clear hb3 HST CR
        go_wp2_with (first | ((with_reducible refine at_op ⟨some 93, _, _, _, _, _⟩ ?_); refine wpList_runW rfl (.agg (pkA q0 none 0)) (load_p rfl rfl HS3.out.hq HIP.out) ?_) | fail)
        refine (pkEncode_any q0 HOK.out HRI.out none 0 W3 HS3.out.hr HCL.out).mono ?_
        rintro e W4 ⟨v7, rfl, hown, hb4⟩
        obtain ⟨a7, c7, rfl⟩ := own_form hown
        have hfl := form_len HOK.out HRI.out
        have hl1 : (formP q0).length ≤ 140737488351232 := by
          rw [hfl]
          split
          · have := (rightP_1 HRI.out (by assumption)).1; omega
          · split <;> omega
        have hS4 := HS3.out.call hb4
        have HSB := hid (SameBytes_any W4 a7 (some ⟨bb, oo, none⟩) c7 cap (formP q0).length n (formP q0) b rfl HN.out (own_bs hown) hS4.hb hl1 hl)
        have HS4 := hid hS4
        clear hown hb4 hS4 HS3 hfl hl1
        go_wp2_with fail
        refine HSB.out.mono ?_
        rintro e W5 ⟨rfl, hb5⟩
        have HS5 := hid (HS4.out.call hb5)
        clear hb5 HSB HS4
        by_cases hfb : formP q0 = b
        · have hbq : (formP q0 == b) = true := by simpa using hfb
          rw [hbq]
          have HE2 : RowKit.Hid (decP b = (q0, true)) := hid (by rw [HE.out]; simp [hfb])
          have HSO := hid (show (pkA pkZ none 0).size = (pkA q0 none 0).size by rw [pkA_size HIP.out, pkA_size rfl])
          have HIX := hid (show (Try.prog.info? 28).map (·.size) = some (pkA q0 none 0).size by rw [pkA_size HIP.out]; exact szP)
          clear HE hfb hbq
          go_wp2_with (first
            | ((with_reducible refine at_op ⟨some 100, _, _, _, _, _⟩ ?_); refine wpList_runW rfl (.agg (pkA q0 none 0)) (load_p rfl rfl HS5.out.hq HIP.out) ?_)
            | ((with_reducible refine at_op ⟨none, .store 28 (.tmp 2) (.tmp 100), _, _, _, _⟩ ?_); refine wpList_store_row rfl 28 _ _ rfl w.heap.size (pkA q0 none 0) rfl rfl 28 (pkA pkZ none 0) HS5.out.hz HIX.out HSO.out (pkA_one _ _ _) ?_)
            | fail)
          refine pdec_ret (u := .bool true) rfl rfl rfl (setRow_heap _ _ _ _ _ _ HS5.out.hz) HIP.out (DecP.some HE2.out (HS5.out.hr.frn (Fr.of_setRow _ w.heap.size _) (fun b' o' he => (HS5.out.ho b' o' he).1)) HCL.out (below_setRow HS5.out.hw _ _ (Nat.le_refl _)))
        · have hbq : (formP q0 == b) = false := by simpa using hfb
          rw [hbq]
          have HE2 : RowKit.Hid (decP b = (pkZ, false)) := hid (by rw [HE.out]; simp [hfb])
          clear HE hfb hbq
          go_wp2_with (first | ((with_reducible refine at_op ⟨none, .store 28 (.tmp 2) (.tmp 99), _, _, _, _⟩ ?_); refine wpList_store_row rfl 28 _ _ rfl w.heap.size (pkA pkZ none 0) rfl rfl 28 (pkA pkZ none 0) HS5.out.hz HIZ.out rfl (pkA_one _ _ _) ?_) | fail)
          refine pdec_ret (u := .bool false) rfl rfl rfl (setRow_heap _ _ _ _ _ _ HS5.out.hz) rfl (DecP.none HE2.out (below_setRow HS5.out.hw _ _ (Nat.le_refl _)))
    · by_cases h34 : q0.ki = 3 ∨ q0.ki = 4
      · have e1 : (q0.ki == 1) = false := by simp; omega
        have e2 : (q0.ki == 2) = false := by simp; omega
        have h3 : ∃ r : Bool, (q0.ki == 3) = r ∧ (r = false → (q0.ki == 4) = true) := ⟨_, rfl, fun h => by simp at h ⊢; omega⟩
        obtain ⟨r, e3, e4⟩ := h3
        have hns : ¬ shortP b := by
          have h1 : b.getD 0 0 = q0.ki := by rw [HQ.out]
          have h2 := HN.out
          unfold shortP; omega
        have hraw : rawP b = { q0 with ip := guidP b 16, n := sg (numP b 32) } := by
          have h1 : b.getD 0 0 = q0.ki := by rw [HQ.out]
          refine pk_ext h1 (by rw [HQ.out]; rfl) (by rw [HQ.out]; rfl) (by rw [HQ.out]; rfl) ?_ ?_ ?_ ?_ ?_ ?_
          · simp only [rawP]; rw [if_neg (by omega), HQ.out]
          · simp only [rawP]; rw [if_neg (by omega), if_pos (by omega)]
          · simp only [rawP]; rw [if_neg (by omega), HQ.out]
          · simp only [rawP]; rw [if_neg (by omega), if_pos (by omega)]
          · simp only [rawP]; rw [if_neg (by omega), HQ.out]
          · simp only [rawP]; rw [if_neg (by omega), HQ.out]
        have HRAW := hid hraw
        have HNS := hid hns
        have HGG := hid (pkGuid_any W2 (some ⟨bb, oo, none⟩) cap n 16 b HST.out.hb HN.out HBY.out hl (by omega))
        have hgl16 : (guidP b 16).length = 16 := gdP_len (Nat.le_refl _)
        have HGL := hid hgl16
        have H16 := hid h16
        have HRS := hid hrs
        clear hns hraw hother hk0 HQ h34 hgl16 h16 hrs
        cases r
        case' false => have e4' := e4 rfl
        all_goals
          clear e4
          go_wp2_with fail
          refine HGG.out.mono ?_
          rintro e W3 ⟨rfl, hb3⟩
          have HS3 := hid (HST.out.call hb3)
          have HTH := hid (HS3.out.hq.there H16.out 5 16 (by omega))
          clear hb3 HST HGG c0
          go_upto_region 24 with (first | ((with_reducible refine at_op ⟨none, .store 24 (.tmp 84) (.tmp 83), _, _, _, _⟩ ?_); refine wpList_store_mid rfl 24 _ _ rfl g 5 (u8s (guidP b 16)) rfl rfl (by rw [u8s_size, HGL.out]; exact HTH.out) (by rw [u8s_size, HGL.out]; exact infoG) (u8s_one _) ?_) | fail)
          obtain ⟨W4, hW4⟩ : ∃ W4, W4 = W3.setCells g 5 (u8l (guidP b 16)) := ⟨_, rfl⟩
          change Code.wp _ _ _ _ (W3.setCells g 5 (u8l (guidP b 16)))
          rw [← hW4]
          obtain ⟨q4, hq4⟩ : ∃ q4 : Pk, q4 = { q0 with ip := guidP b 16 } := ⟨_, rfl⟩
          have h4 : DSt w b bb oo g W4 q4 none 0 := HS3.out.put (by rw [hW4]; exact Fr.setCells g _ 5 W3) (by rw [hW4, hq4]; exact HS3.out.hq.setg H16.out _ HGL.out) (by rw [hq4, show ({ q0 with ip := guidP b 16 } : Pk).rs = [] from HRS.out]; exact RwO.nil _ _) (fun _ _ h => by cases h)
          have hl4 : q4.ip.length = 16 := by rw [hq4]; exact HGL.out
          have HS4 := hid h4
          have HQ4 := hid hq4
          have HL4 := hid hl4
          clear hW4 h4 hq4 hl4 HS3 HTH
          have HNN := hid (pkNum_any W4 (some ⟨bb, oo, none⟩) cap n 32 b HS4.out.hb HN.out HBY.out hl rfl (by omega))
          go_wp2_with fail
          refine HNN.out.mono ?_
          rintro e W5 ⟨rfl, rfl⟩
          have c22 := HS4.out.hq.c22 HL4.out
          have z22 := frozen_of_row W4 g 22 _ 28 HS4.out.hq
          clear HNN
          go_upto_region 25 with (fail)
          obtain ⟨W6, hW6⟩ : ∃ W6, W6 = W4.setCell ⟨g, 22, none⟩ (.int .i64 (sg (numP b 32))) := ⟨_, rfl⟩
          change Code.wp _ _ _ _ (W4.setCell ⟨g, 22, none⟩ (.int .i64 (sg (numP b 32))))
          rw [← hW6]
          obtain ⟨q6, hq6⟩ : ∃ q6 : Pk, q6 = { q4 with n := sg (numP b 32) } := ⟨_, rfl⟩
          have hr6 : q6.rs = [] := by rw [hq6]; show q4.rs = []; rw [HQ4.out]; exact HRS.out
          have h6 : DSt w b bb oo g W6 q6 none 0 := HS4.out.put (by rw [hW6]; exact (Fr.refl (fun j => j = g) W4).setCell _ _ (fun _ => rfl)) (by rw [hW6, hq6]; exact HS4.out.hq.setc 22 _ (pkc_setb HL4.out 1 _ rfl rfl rfl rfl rfl rfl rfl)) (by rw [hr6]; exact RwO.nil _ _) (fun _ _ h => by cases h)
          have hraw : rawP b = q6 := by rw [HRAW.out, hq6, HQ4.out]
          have HS6 := hid h6
          have HE := hid (show decP b = if rightP q6 = true ∧ formP q6 = b then (q6, true) else (pkZ, false) by rw [decP, if_neg HNS.out, hraw])
          have HOK := hid (show PkOk q6 by rw [← hraw]; exact raw_ok HBY.out)
          have HCL := hid (show q6.rs.length ≤ 0 ∧ 0 ≤ 9223372036854775807 by rw [hr6]; exact ⟨Nat.le_refl _, by omega⟩)
          clear hW6 hq6 hr6 h6 hraw HS4 HQ4 HL4 c22 z22 HRAW HNS
          have CR := hid (pkRight_any q6 HOK.out none 0 W6 HS6.out.hr HCL.out)
          have HIP := hid HOK.out.ip.len
          cases hr : rightP q6 with
          | false =>
            rw [hr] at CR HE
            have HE2 : RowKit.Hid (decP b = (pkZ, false)) := hid (by rw [HE.out]; simp)
            clear HE hr
            go_wp2_with (first | ((with_reducible refine at_op ⟨some 89, _, _, _, _, _⟩ ?_); refine wpList_runW rfl (.agg (pkA q6 none 0)) (load_p rfl rfl HS6.out.hq HIP.out) ?_) | fail)
            refine CR.out.mono ?_
            rintro e W3 ⟨rfl, hb3⟩
            have HS3 := hid (HS6.out.call hb3)
            clear hb3 HS6 CR
            go_wp2_with (first | ((with_reducible refine at_op ⟨none, .store 28 (.tmp 2) (.tmp 99), _, _, _, _⟩ ?_); refine wpList_store_row rfl 28 _ _ rfl w.heap.size (pkA pkZ none 0) rfl rfl 28 (pkA pkZ none 0) HS3.out.hz HIZ.out rfl (pkA_one _ _ _) ?_) | fail)
            refine pdec_ret (u := .bool false) rfl rfl rfl (setRow_heap _ _ _ _ _ _ HS3.out.hz) rfl (DecP.none HE2.out (below_setRow HS3.out.hw _ _ (Nat.le_refl _)))
          | true =>
            have HRI := hid hr
            rw [hr] at CR HE
            clear hr
            go_wp2_with (first | ((with_reducible refine at_op ⟨some 89, _, _, _, _, _⟩ ?_); refine wpList_runW rfl (.agg (pkA q6 none 0)) (load_p rfl rfl HS6.out.hq HIP.out) ?_) | fail)
            refine CR.out.mono ?_
            rintro e W3 ⟨rfl, hb3⟩
            have HS3 := hid (HS6.out.call hb3)
            clear hb3 HS6 CR
            go_wp2_with (first | ((with_reducible refine at_op ⟨some 93, _, _, _, _, _⟩ ?_); refine wpList_runW rfl (.agg (pkA q6 none 0)) (load_p rfl rfl HS3.out.hq HIP.out) ?_) | fail)
            refine (pkEncode_any q6 HOK.out HRI.out none 0 W3 HS3.out.hr HCL.out).mono ?_
            rintro e W4 ⟨v7, rfl, hown, hb4⟩
            obtain ⟨a7, c7, rfl⟩ := own_form hown
            have hfl := form_len HOK.out HRI.out
            have hl1 : (formP q6).length ≤ 140737488351232 := by
              rw [hfl]
              split
              · have := (rightP_1 HRI.out (by assumption)).1; omega
              · split <;> omega
            have hS4 := HS3.out.call hb4
            have HSB := hid (SameBytes_any W4 a7 (some ⟨bb, oo, none⟩) c7 cap (formP q6).length n (formP q6) b rfl HN.out (own_bs hown) hS4.hb hl1 hl)
            have HS4 := hid hS4
            clear hown hb4 hS4 HS3 hfl hl1
            go_wp2_with fail
            refine HSB.out.mono ?_
            rintro e W5 ⟨rfl, hb5⟩
            have HS5 := hid (HS4.out.call hb5)
            clear hb5 HSB HS4
            by_cases hfb : formP q6 = b
            · have hbq : (formP q6 == b) = true := by simpa using hfb
              rw [hbq]
              have HE2 : RowKit.Hid (decP b = (q6, true)) := hid (by rw [HE.out]; simp [hfb])
              have HSO := hid (show (pkA pkZ none 0).size = (pkA q6 none 0).size by rw [pkA_size HIP.out, pkA_size rfl])
              have HIX := hid (show (Try.prog.info? 28).map (·.size) = some (pkA q6 none 0).size by rw [pkA_size HIP.out]; exact szP)
              clear HE hfb hbq
              go_wp2_with (first
                | ((with_reducible refine at_op ⟨some 100, _, _, _, _, _⟩ ?_); refine wpList_runW rfl (.agg (pkA q6 none 0)) (load_p rfl rfl HS5.out.hq HIP.out) ?_)
                | ((with_reducible refine at_op ⟨none, .store 28 (.tmp 2) (.tmp 100), _, _, _, _⟩ ?_); refine wpList_store_row rfl 28 _ _ rfl w.heap.size (pkA q6 none 0) rfl rfl 28 (pkA pkZ none 0) HS5.out.hz HIX.out HSO.out (pkA_one _ _ _) ?_)
                | fail)
              refine pdec_ret (u := .bool true) rfl rfl rfl (setRow_heap _ _ _ _ _ _ HS5.out.hz) HIP.out (DecP.some HE2.out (HS5.out.hr.frn (Fr.of_setRow _ w.heap.size _) (fun b' o' he => (HS5.out.ho b' o' he).1)) HCL.out (below_setRow HS5.out.hw _ _ (Nat.le_refl _)))
            · have hbq : (formP q6 == b) = false := by simpa using hfb
              rw [hbq]
              have HE2 : RowKit.Hid (decP b = (pkZ, false)) := hid (by rw [HE.out]; simp [hfb])
              clear HE hfb hbq
              go_wp2_with (first | ((with_reducible refine at_op ⟨none, .store 28 (.tmp 2) (.tmp 99), _, _, _, _⟩ ?_); refine wpList_store_row rfl 28 _ _ rfl w.heap.size (pkA pkZ none 0) rfl rfl 28 (pkA pkZ none 0) HS5.out.hz HIZ.out rfl (pkA_one _ _ _) ?_) | fail)
              refine pdec_ret (u := .bool false) rfl rfl rfl (setRow_heap _ _ _ _ _ _ HS5.out.hz) rfl (DecP.none HE2.out (below_setRow HS5.out.hw _ _ (Nat.le_refl _)))
      · by_cases h2 : q0.ki = 2
        · have e1 : (q0.ki == 1) = false := by simp; omega
          have e2 : (q0.ki == 2) = true := by simp; omega
          by_cases hsh : n < 40
          · have d40 : decide ((n : Int) < 40) = true := by simp; omega
            have HE2 : RowKit.Hid (decP b = (pkZ, false)) := hid (by
              have h1 : b.getD 0 0 = q0.ki := by rw [HQ.out]
              have h3 := HN.out
              rw [decP, if_pos (by unfold shortP; omega)])
            clear HQ hk0 hother h34 h2 hsh h16 hrs
            go_wp2_with (first | ((with_reducible refine at_op ⟨none, .store 28 (.tmp 2) (.tmp 66), _, _, _, _⟩ ?_); refine wpList_store_row rfl 28 _ _ rfl w.heap.size (pkA pkZ none 0) rfl rfl 28 (pkA pkZ none 0) HST.out.hz HIZ.out rfl (pkA_one _ _ _) ?_) | fail)
            refine pdec_ret (u := .bool false) rfl rfl rfl (setRow_heap _ _ _ _ _ _ HST.out.hz) rfl (DecP.none HE2.out (below_setRow HST.out.hw _ _ (Nat.le_refl _)))
          · have d40 : decide ((n : Int) < 40) = false := by simp; omega
            have hn40 : 40 ≤ n := by omega
            have hns : ¬ shortP b := by
              have h1 : b.getD 0 0 = q0.ki := by rw [HQ.out]
              have h3 := HN.out
              unfold shortP; omega
            have hraw : rawP b = { q0 with ca := numP b 16, co := b.getD 24 0, n := sg (numP b 32) } := by
              have h1 : b.getD 0 0 = q0.ki := by rw [HQ.out]
              refine pk_ext h1 (by rw [HQ.out]; rfl) (by rw [HQ.out]; rfl) (by rw [HQ.out]; rfl) ?_ ?_ ?_ ?_ ?_ ?_
              · simp only [rawP]; rw [if_pos (by omega)]
              · simp only [rawP]; rw [if_neg (by omega), if_neg (by omega), HQ.out]
              · simp only [rawP]; rw [if_neg (by omega), HQ.out]
              · simp only [rawP]; rw [if_neg (by omega), if_pos (by omega)]
              · simp only [rawP]; rw [if_pos (by omega)]
              · simp only [rawP]; rw [if_neg (by omega), HQ.out]
            have HRAW := hid hraw
            have HNS := hid hns
            have HNN := hid (pkNum_any W2 (some ⟨bb, oo, none⟩) cap n 16 b HST.out.hb HN.out HBY.out hl rfl (by omega))
            have H16 := hid h16
            have HRS := hid hrs
            have c4 := HST.out.hq.c4
            have z4 := frozen_of_row W2 g 4 _ 28 HST.out.hq
            clear hns hraw hother hk0 HQ h34 h2 hsh h16 hrs
            go_wp2_with fail
            refine HNN.out.mono ?_
            rintro e W3 ⟨rfl, rfl⟩
            clear HNN
            go_upto_region 19 with (fail)
            obtain ⟨W4, hW⟩ : ∃ W4, W4 = W2.setCell ⟨g, 4, none⟩ (.int .u64 (numP b 16)) := ⟨_, rfl⟩
            change Code.wp _ _ _ _ (W2.setCell ⟨g, 4, none⟩ (.int .u64 (numP b 16)))
            rw [← hW]
            obtain ⟨q4, hqn⟩ : ∃ q4 : Pk, q4 = { q0 with ca := numP b 16 } := ⟨_, rfl⟩
            have hrn : q4.rs = [] := by rw [hqn]; exact HRS.out
            have hn' : DSt w b bb oo g W4 q4 none 0 := HST.out.put (by rw [hW]; exact (Fr.refl (fun j => j = g) W2).setCell _ _ (fun _ => rfl)) (by rw [hW, hqn]; exact HST.out.hq.setc 4 _ (pkc_set4 _ _ _ _)) (by rw [hrn]; exact RwO.nil _ _) (fun _ _ h => by cases h)
            have hln : q4.ip.length = 16 := by rw [hqn]; exact H16.out
            have HS4 := hid hn'
            have HQ4 := hid hqn
            have HL4 := hid hln
            have HRSn := hid hrn
            clear hW hn' hqn hln hrn
            have g24 := getD_byt HBY.out 24
            have hw24 : IntKind.i64.wrap (b.getD 24 0) = b.getD 24 0 := IntWalk.i64_in _ ⟨by omega, by omega⟩
            have cb := HS4.out.hb.cell (j := 24) (by have := HN.out; omega)
            have c23 := HS4.out.hq.c23 HL4.out
            have z23 := frozen_of_row W4 g 23 _ 28 HS4.out.hq
            obtain ⟨y24, hy24⟩ : ∃ y, y = b.getD 24 0 := ⟨_, rfl⟩
            rw [← hy24] at hw24 cb HRAW
            clear hy24 g24 c4 z4 c0 HST
            go_upto_region 20 with (fail)
            clear cb c23 z23 hw24
            obtain ⟨W5, hW⟩ : ∃ W5, W5 = W4.setCell ⟨g, 23, none⟩ (.int .i64 y24) := ⟨_, rfl⟩
            change Code.wp _ _ _ _ (W4.setCell ⟨g, 23, none⟩ (.int .i64 y24))
            rw [← hW]
            obtain ⟨q5, hqn⟩ : ∃ q5 : Pk, q5 = { q4 with co := y24 } := ⟨_, rfl⟩
            have hrn : q5.rs = [] := by rw [hqn]; exact HRSn.out
            have hn' : DSt w b bb oo g W5 q5 none 0 := HS4.out.put (by rw [hW]; exact (Fr.refl (fun j => j = g) W4).setCell _ _ (fun _ => rfl)) (by rw [hW, hqn]; exact HS4.out.hq.setc 23 _ (pkc_setb HL4.out 2 _ rfl rfl rfl rfl rfl rfl rfl)) (by rw [hrn]; exact RwO.nil _ _) (fun _ _ h => by cases h)
            have hln : q5.ip.length = 16 := by rw [hqn]; exact HL4.out
            have HS5 := hid hn'
            have HQ5 := hid hqn
            have HL5 := hid hln
            have HRSnn := hid hrn
            clear hW hn' hqn hln hrn
            have HNN := hid (pkNum_any W5 (some ⟨bb, oo, none⟩) cap n 32 b HS5.out.hb HN.out HBY.out hl rfl (by omega))
            clear HS4
            go_wp2_with fail
            refine HNN.out.mono ?_
            rintro e W6 ⟨rfl, rfl⟩
            have c22 := HS5.out.hq.c22 HL5.out
            have z22 := frozen_of_row W5 g 22 _ 28 HS5.out.hq
            clear HNN
            go_upto_region 25 with (fail)
            clear c22 z22
            obtain ⟨W7, hW⟩ : ∃ W7, W7 = W5.setCell ⟨g, 22, none⟩ (.int .i64 (sg (numP b 32))) := ⟨_, rfl⟩
            change Code.wp _ _ _ _ (W5.setCell ⟨g, 22, none⟩ (.int .i64 (sg (numP b 32))))
            rw [← hW]
            obtain ⟨q7, hqn⟩ : ∃ q7 : Pk, q7 = { q5 with n := sg (numP b 32) } := ⟨_, rfl⟩
            have hrn : q7.rs = [] := by rw [hqn]; exact HRSnn.out
            have hn' : DSt w b bb oo g W7 q7 none 0 := HS5.out.put (by rw [hW]; exact (Fr.refl (fun j => j = g) W5).setCell _ _ (fun _ => rfl)) (by rw [hW, hqn]; exact HS5.out.hq.setc 22 _ (pkc_setb HL5.out 1 _ rfl rfl rfl rfl rfl rfl rfl)) (by rw [hrn]; exact RwO.nil _ _) (fun _ _ h => by cases h)
            have hln : q7.ip.length = 16 := by rw [hqn]; exact HL5.out
            have HS7 := hid hn'
            have HQ7 := hid hqn
            have HL7 := hid hln
            have HRSnnn := hid hrn
            clear hW hn' hqn hln hrn
            have hraw : rawP b = q7 := by rw [HRAW.out, HQ7.out, HQ5.out, HQ4.out]
            have HE := hid (show decP b = if rightP q7 = true ∧ formP q7 = b then (q7, true) else (pkZ, false) by rw [decP, if_neg HNS.out, hraw])
            have HOK := hid (show PkOk q7 by rw [← hraw]; exact raw_ok HBY.out)
            have HCL := hid (show q7.rs.length ≤ 0 ∧ 0 ≤ 9223372036854775807 by rw [HRSnnn.out]; exact ⟨Nat.le_refl _, by omega⟩)
            clear hraw HS5 HQ4 HQ5 HQ7 HL4 HL5 HL7 HRAW HNS HRS HRSn HRSnn HRSnnn H16
            have CR := hid (pkRight_any q7 HOK.out none 0 W7 HS7.out.hr HCL.out)
            have HIP := hid HOK.out.ip.len
            cases hr : rightP q7 with
            | false =>
              rw [hr] at CR HE
              have HE2 : RowKit.Hid (decP b = (pkZ, false)) := hid (by rw [HE.out]; simp)
              clear HE hr
              go_wp2_with (first | ((with_reducible refine at_op ⟨some 89, _, _, _, _, _⟩ ?_); refine wpList_runW rfl (.agg (pkA q7 none 0)) (load_p rfl rfl HS7.out.hq HIP.out) ?_) | fail)
              refine CR.out.mono ?_
              rintro e W3 ⟨rfl, hb3⟩
              have HS3 := hid (HS7.out.call hb3)
              clear hb3 HS7 CR
              go_wp2_with (first | ((with_reducible refine at_op ⟨none, .store 28 (.tmp 2) (.tmp 99), _, _, _, _⟩ ?_); refine wpList_store_row rfl 28 _ _ rfl w.heap.size (pkA pkZ none 0) rfl rfl 28 (pkA pkZ none 0) HS3.out.hz HIZ.out rfl (pkA_one _ _ _) ?_) | fail)
              refine pdec_ret (u := .bool false) rfl rfl rfl (setRow_heap _ _ _ _ _ _ HS3.out.hz) rfl (DecP.none HE2.out (below_setRow HS3.out.hw _ _ (Nat.le_refl _)))
            | true =>
              have HRI := hid hr
              rw [hr] at CR HE
              clear hr
              go_wp2_with (first | ((with_reducible refine at_op ⟨some 89, _, _, _, _, _⟩ ?_); refine wpList_runW rfl (.agg (pkA q7 none 0)) (load_p rfl rfl HS7.out.hq HIP.out) ?_) | fail)
              refine CR.out.mono ?_
              rintro e W3 ⟨rfl, hb3⟩
              have HS3 := hid (HS7.out.call hb3)
              clear hb3 HS7 CR
              go_wp2_with (first | ((with_reducible refine at_op ⟨some 93, _, _, _, _, _⟩ ?_); refine wpList_runW rfl (.agg (pkA q7 none 0)) (load_p rfl rfl HS3.out.hq HIP.out) ?_) | fail)
              refine (pkEncode_any q7 HOK.out HRI.out none 0 W3 HS3.out.hr HCL.out).mono ?_
              rintro e W4 ⟨v7, rfl, hown, hb4⟩
              obtain ⟨a7, c7, rfl⟩ := own_form hown
              have hfl := form_len HOK.out HRI.out
              have hl1 : (formP q7).length ≤ 140737488351232 := by
                rw [hfl]
                split
                · have := (rightP_1 HRI.out (by assumption)).1; omega
                · split <;> omega
              have hS4 := HS3.out.call hb4
              have HSB := hid (SameBytes_any W4 a7 (some ⟨bb, oo, none⟩) c7 cap (formP q7).length n (formP q7) b rfl HN.out (own_bs hown) hS4.hb hl1 hl)
              have HS4 := hid hS4
              clear hown hb4 hS4 HS3 hfl hl1
              go_wp2_with fail
              refine HSB.out.mono ?_
              rintro e W5 ⟨rfl, hb5⟩
              have HS5 := hid (HS4.out.call hb5)
              clear hb5 HSB HS4
              by_cases hfb : formP q7 = b
              · have hbq : (formP q7 == b) = true := by simpa using hfb
                rw [hbq]
                have HE2 : RowKit.Hid (decP b = (q7, true)) := hid (by rw [HE.out]; simp [hfb])
                have HSO := hid (show (pkA pkZ none 0).size = (pkA q7 none 0).size by rw [pkA_size HIP.out, pkA_size rfl])
                have HIX := hid (show (Try.prog.info? 28).map (·.size) = some (pkA q7 none 0).size by rw [pkA_size HIP.out]; exact szP)
                clear HE hfb hbq
                go_wp2_with (first
                  | ((with_reducible refine at_op ⟨some 100, _, _, _, _, _⟩ ?_); refine wpList_runW rfl (.agg (pkA q7 none 0)) (load_p rfl rfl HS5.out.hq HIP.out) ?_)
                  | ((with_reducible refine at_op ⟨none, .store 28 (.tmp 2) (.tmp 100), _, _, _, _⟩ ?_); refine wpList_store_row rfl 28 _ _ rfl w.heap.size (pkA q7 none 0) rfl rfl 28 (pkA pkZ none 0) HS5.out.hz HIX.out HSO.out (pkA_one _ _ _) ?_)
                  | fail)
                refine pdec_ret (u := .bool true) rfl rfl rfl (setRow_heap _ _ _ _ _ _ HS5.out.hz) HIP.out (DecP.some HE2.out (HS5.out.hr.frn (Fr.of_setRow _ w.heap.size _) (fun b' o' he => (HS5.out.ho b' o' he).1)) HCL.out (below_setRow HS5.out.hw _ _ (Nat.le_refl _)))
              · have hbq : (formP q7 == b) = false := by simpa using hfb
                rw [hbq]
                have HE2 : RowKit.Hid (decP b = (pkZ, false)) := hid (by rw [HE.out]; simp [hfb])
                clear HE hfb hbq
                go_wp2_with (first | ((with_reducible refine at_op ⟨none, .store 28 (.tmp 2) (.tmp 99), _, _, _, _⟩ ?_); refine wpList_store_row rfl 28 _ _ rfl w.heap.size (pkA pkZ none 0) rfl rfl 28 (pkA pkZ none 0) HS5.out.hz HIZ.out rfl (pkA_one _ _ _) ?_) | fail)
                refine pdec_ret (u := .bool false) rfl rfl rfl (setRow_heap _ _ _ _ _ _ HS5.out.hz) rfl (DecP.none HE2.out (below_setRow HS5.out.hw _ _ (Nat.le_refl _)))
        · have hk1 : q0.ki = 1 := by omega
          have e1 : (q0.ki == 1) = true := by simp; omega
          by_cases hsh : n < 64
          · have d64 : decide ((n : Int) < 64) = true := by simp; omega
            have HE2 : RowKit.Hid (decP b = (pkZ, false)) := hid (by
              have h1 : b.getD 0 0 = q0.ki := by rw [HQ.out]
              have h3 := HN.out
              rw [decP, if_pos (by unfold shortP; omega)])
            clear HQ hk0 hother h34 h2 hk1 hsh h16 hrs
            go_wp2_with (first | ((with_reducible refine at_op ⟨none, .store 28 (.tmp 2) (.tmp 33), _, _, _, _⟩ ?_); refine wpList_store_row rfl 28 _ _ rfl w.heap.size (pkA pkZ none 0) rfl rfl 28 (pkA pkZ none 0) HST.out.hz HIZ.out rfl (pkA_one _ _ _) ?_) | fail)
            refine pdec_ret (u := .bool false) rfl rfl rfl (setRow_heap _ _ _ _ _ _ HST.out.hz) rfl (DecP.none HE2.out (below_setRow HST.out.hw _ _ (Nat.le_refl _)))
          · have d64 : decide ((n : Int) < 64) = false := by simp; omega
            have hn64 : 64 ≤ n := by omega
            have hns : ¬ shortP b := by
              have h1 : b.getD 0 0 = q0.ki := by rw [HQ.out]
              have h3 := HN.out
              unfold shortP; omega
            have hraw : rawP b = { q0 with ca := numP b 16, ip := guidP b 24, me := b.getD 40 0, n := sg (numP b 48), rs := if numP b 56 = 1 then [(decO (b.drop 64)).1] else [] } := by
              have h1 : b.getD 0 0 = q0.ki := by rw [HQ.out]
              refine pk_ext h1 (by rw [HQ.out]; rfl) (by rw [HQ.out]; rfl) (by rw [HQ.out]; rfl) ?_ ?_ ?_ ?_ ?_ ?_
              · simp only [rawP]; rw [if_pos (by omega)]
              · simp only [rawP]; rw [if_pos (by omega)]
              · simp only [rawP]; rw [if_pos (by omega)]
              · simp only [rawP]; rw [if_pos (by omega)]
              · simp only [rawP]; rw [if_neg (by omega), HQ.out]
              · simp only [rawP]
                by_cases h56 : numP b 56 = 1
                · rw [if_pos ⟨by omega, h56⟩, if_pos h56]
                · rw [if_neg (fun h => h56 h.2), if_neg h56]
            have HRAW := hid hraw
            have HNS := hid hns
            have HNN := hid (pkNum_any W2 (some ⟨bb, oo, none⟩) cap n 16 b HST.out.hb HN.out HBY.out hl rfl (by omega))
            have H16 := hid h16
            have HRS := hid hrs
            have c4 := HST.out.hq.c4
            have z4 := frozen_of_row W2 g 4 _ 28 HST.out.hq
            have hgl16 : (guidP b 24).length = 16 := gdP_len (Nat.le_refl _)
            have HGL := hid hgl16
            clear hns hraw hother hk0 HQ h34 h2 hk1 hsh h16 hrs hgl16
            go_wp2_with fail
            refine HNN.out.mono ?_
            rintro e W3 ⟨rfl, rfl⟩
            clear HNN
            go_upto_region 9 with (fail)
            clear c4 z4 c0
            obtain ⟨W4, hW⟩ : ∃ W4, W4 = W2.setCell ⟨g, 4, none⟩ (.int .u64 (numP b 16)) := ⟨_, rfl⟩
            change Code.wp _ _ _ _ (W2.setCell ⟨g, 4, none⟩ (.int .u64 (numP b 16)))
            rw [← hW]
            obtain ⟨q4, hqn⟩ : ∃ q4 : Pk, q4 = { q0 with ca := numP b 16 } := ⟨_, rfl⟩
            have hrn : q4.rs = [] := by rw [hqn]; exact HRS.out
            have hn' : DSt w b bb oo g W4 q4 none 0 := HST.out.put (by rw [hW]; exact (Fr.refl (fun j => j = g) W2).setCell _ _ (fun _ => rfl)) (by rw [hW, hqn]; exact HST.out.hq.setc 4 _ (pkc_set4 _ _ _ _)) (by rw [hrn]; exact RwO.nil _ _) (fun _ _ h => by cases h)
            have hln : q4.ip.length = 16 := by rw [hqn]; exact H16.out
            have HS4 := hid hn'
            have HQ4 := hid hqn
            have HL4 := hid hln
            have HRSn := hid hrn
            clear hW hn' hqn hln hrn
            have HGG := hid (pkGuid_any W4 (some ⟨bb, oo, none⟩) cap n 24 b HS4.out.hb HN.out HBY.out hl (by omega))
            clear HST
            go_wp2_with fail
            refine HGG.out.mono ?_
            rintro e W5 ⟨rfl, hb5⟩
            have HS5 := hid (HS4.out.call hb5)
            have HTH := hid (HS5.out.hq.there HL4.out 5 16 (by omega))
            clear hb5 HS4 HGG
            go_upto_region 10 with (first | ((with_reducible refine at_op ⟨none, .store 24 (.tmp 39) (.tmp 38), _, _, _, _⟩ ?_); refine wpList_store_mid rfl 24 _ _ rfl g 5 (u8s (guidP b 24)) rfl rfl (by rw [u8s_size, HGL.out]; exact HTH.out) (by rw [u8s_size, HGL.out]; exact infoG) (u8s_one _) ?_) | fail)
            obtain ⟨W6, hW⟩ : ∃ W6, W6 = W5.setCells g 5 (u8l (guidP b 24)) := ⟨_, rfl⟩
            change Code.wp _ _ _ _ (W5.setCells g 5 (u8l (guidP b 24)))
            rw [← hW]
            obtain ⟨q6, hqn⟩ : ∃ q6 : Pk, q6 = { q4 with ip := guidP b 24 } := ⟨_, rfl⟩
            have hrn : q6.rs = [] := by rw [hqn]; exact HRSn.out
            have hn' : DSt w b bb oo g W6 q6 none 0 := HS5.out.put (by rw [hW]; exact Fr.setCells g _ 5 W5) (by rw [hW, hqn]; exact HS5.out.hq.setg HL4.out _ HGL.out) (by rw [hrn]; exact RwO.nil _ _) (fun _ _ h => by cases h)
            have hln : q6.ip.length = 16 := by rw [hqn]; exact HGL.out
            have HS6 := hid hn'
            have HQ6 := hid hqn
            have HL6 := hid hln
            have HRS6 := hid hrn
            clear hW hn' hqn hln hrn HS5 HTH
            have g40 := getD_byt HBY.out 40
            have hw40 : IntKind.i64.wrap (b.getD 40 0) = b.getD 40 0 := IntWalk.i64_in _ ⟨by omega, by omega⟩
            have cb := HS6.out.hb.cell (j := 40) (by have := HN.out; omega)
            have c21 := HS6.out.hq.c21 HL6.out
            have z21 := frozen_of_row W6 g 21 _ 28 HS6.out.hq
            obtain ⟨y40, hy40⟩ : ∃ y, y = b.getD 40 0 := ⟨_, rfl⟩
            rw [← hy40] at hw40 cb HRAW
            clear hy40 g40
            go_upto_region 11 with (fail)
            clear cb c21 z21 hw40
            obtain ⟨W7, hW⟩ : ∃ W7, W7 = W6.setCell ⟨g, 21, none⟩ (.int .i64 y40) := ⟨_, rfl⟩
            change Code.wp _ _ _ _ (W6.setCell ⟨g, 21, none⟩ (.int .i64 y40))
            rw [← hW]
            obtain ⟨q7, hqn⟩ : ∃ q7 : Pk, q7 = { q6 with me := y40 } := ⟨_, rfl⟩
            have hrn : q7.rs = [] := by rw [hqn]; exact HRS6.out
            have hn' : DSt w b bb oo g W7 q7 none 0 := HS6.out.put (by rw [hW]; exact (Fr.refl (fun j => j = g) W6).setCell _ _ (fun _ => rfl)) (by rw [hW, hqn]; exact HS6.out.hq.setc 21 _ (pkc_setb HL6.out 0 _ rfl rfl rfl rfl rfl rfl rfl)) (by rw [hrn]; exact RwO.nil _ _) (fun _ _ h => by cases h)
            have hln : q7.ip.length = 16 := by rw [hqn]; exact HL6.out
            have HS7 := hid hn'
            have HQ7 := hid hqn
            have HL7 := hid hln
            have HRS6n := hid hrn
            clear hW hn' hqn hln hrn
            have HNN := hid (pkNum_any W7 (some ⟨bb, oo, none⟩) cap n 48 b HS7.out.hb HN.out HBY.out hl rfl (by omega))
            clear HS6
            go_wp2_with fail
            refine HNN.out.mono ?_
            rintro e W8 ⟨rfl, rfl⟩
            have c22 := HS7.out.hq.c22 HL7.out
            have z22 := frozen_of_row W7 g 22 _ 28 HS7.out.hq
            clear HNN
            go_upto_region 12 with (fail)
            clear c22 z22
            obtain ⟨W9, hW⟩ : ∃ W9, W9 = W7.setCell ⟨g, 22, none⟩ (.int .i64 (sg (numP b 48))) := ⟨_, rfl⟩
            change Code.wp _ _ _ _ (W7.setCell ⟨g, 22, none⟩ (.int .i64 (sg (numP b 48))))
            rw [← hW]
            obtain ⟨q9, hqn⟩ : ∃ q9 : Pk, q9 = { q7 with n := sg (numP b 48) } := ⟨_, rfl⟩
            have hrn : q9.rs = [] := by rw [hqn]; exact HRS6n.out
            have hn' : DSt w b bb oo g W9 q9 none 0 := HS7.out.put (by rw [hW]; exact (Fr.refl (fun j => j = g) W7).setCell _ _ (fun _ => rfl)) (by rw [hW, hqn]; exact HS7.out.hq.setc 22 _ (pkc_setb HL7.out 1 _ rfl rfl rfl rfl rfl rfl rfl)) (by rw [hrn]; exact RwO.nil _ _) (fun _ _ h => by cases h)
            have hln : q9.ip.length = 16 := by rw [hqn]; exact HL7.out
            have HS9 := hid hn'
            have HQ9 := hid hqn
            have HL9 := hid hln
            have HRS6nn := hid hrn
            clear hW hn' hqn hln hrn
            have HNN := hid (pkNum_any W9 (some ⟨bb, oo, none⟩) cap n 56 b HS9.out.hb HN.out HBY.out hl rfl (by omega))
            clear HS7
            go_wp2_with fail
            refine HNN.out.mono ?_
            rintro e W10 ⟨rfl, rfl⟩
            clear HNN
            by_cases h56 : numP b 56 = 1
            · have e56 : (numP b 56 == 1) = true := by simp [h56]
              have hc64 : 64 ≤ cap := by omega
              have HDEC : RowKit.Hid (∀ ad, (ad = some ⟨bb, oo + 64, none⟩ ∨ (n = 64 ∧ cap = 64)) → Calls Try.prog 36 #[.slice ad (n - 64) (cap - 64)] W9 (DecPost W9 (b.drop 64))) := hid (fun ad had => by
                refine refDecode_any W9 ad (cap - 64) (n - 64) (b.drop 64) ?_ (by rw [List.length_drop, ← HN.out]) (HBY.out.sub fun _ hy => List.mem_of_mem_drop hy) (by omega) (by omega)
                rcases had with rfl | ⟨h1, h2⟩
                · exact HS9.out.hb.drop 64
                · have hnil : b.drop 64 = [] := List.drop_eq_nil_of_le (by have := HN.out; omega)
                  rw [hnil]
                  exact ⟨fun h => by simp at h, fun _ _ _ j u hu => by simp [u8l] at hu⟩)
              by_cases hcap : cap = 64
              · subst hcap
                have hnil : b.drop 64 = [] := List.drop_eq_nil_of_le (by have := HN.out; omega)
                have HDE2 := hid (fun ad => refDecode_any W9 ad 0 0 (b.drop 64) (by rw [hnil]; exact ⟨fun h => by simp at h, fun _ _ _ j u hu => by simp [u8l] at hu⟩) (by rw [hnil]; rfl) (by rw [hnil]; exact fun _ hy => by cases hy) (by omega) (by omega))
                clear hnil
                go_wp2_with fail
                refine (HDE2.out _).mono ?_
                rintro e W11 ⟨rfl, hb11⟩
                obtain ⟨x, hx⟩ : ∃ x, x = (decO (b.drop 64)).1 := ⟨_, rfl⟩
                obtain ⟨xe, hxe⟩ : ∃ xe, xe = (decO (b.drop 64)).2 := ⟨_, rfl⟩
                rw [← hx, ← hxe]
                have hxok : OrfOk x := by rw [hx]; exact decO_ok (HBY.out.sub fun _ hy => List.mem_of_mem_drop hy)
                have HS11 := hid (HS9.out.call hb11)
                have hal : (W11.alloc (.cells (orA orZ) 58)).heap[W11.heap.size]? = some (.cells (orA orZ) 58 (0, 0)) := heap_alloc_new _ _
                have HAL := hid hal
                have HX := hid hx
                have HSZ := hid (show (orA orZ).size = (orA x).size by rw [orA_size hxok, orA_size orZ_ok])
                have HIO := hid (infoO hxok)
                clear hal hx hxe hb11 HDEC HDE2 HS9
                go_upto_region 14 with (first | ((with_reducible refine at_op ⟨none, .store 58 (.tmp 5) (.tmp 56), _, _, _, _⟩ ?_); refine wpList_store_row rfl 58 _ _ rfl W11.heap.size (orA x) rfl rfl 58 (orA orZ) HAL.out HIO.out HSZ.out (orA_one _) ?_) | fail)
                obtain ⟨W12, hW⟩ : ∃ W12, W12 = (W11.alloc (.cells (orA orZ) 58)).setRow W11.heap.size (orA x) := ⟨_, rfl⟩
                change Code.wp _ _ _ _ ((W11.alloc (.cells (orA orZ) 58)).setRow W11.heap.size (orA x))
                rw [← hW]
                have hi12 : InO W12 W11.heap.size x := by rw [hW]; exact setRow_heap _ _ _ _ _ _ HAL.out
                have hb12 : Below W11.heap.size W11 W12 := by rw [hW]; exact below_setRow ((Below.refl _ _).alloc (Nat.le_refl _) _) _ _ (Nat.le_refl _)
                have HI12 := hid hi12
                have HS12 := hid (HS11.out.call hb12)
                clear hW hi12 hb12 HS11 HAL HSZ HIO
                obtain ⟨W13, hW13⟩ : ∃ W13, W13 = W12.alloc (.cells (orA x) 58) := ⟨_, rfl⟩
                have hi13 : InO W13 W12.heap.size x := by rw [hW13]; exact heap_alloc_new _ _
                have HS13 := hid (HS12.out.call (show Below W12.heap.size W12 W13 by rw [hW13]; exact (Below.refl _ _).alloc (Nat.le_refl _) _))
                have HI13 := hid hi13
                have HW13 := hid hW13
                have HGN := hid (show W12.heap.size ≠ w.heap.size ∧ W12.heap.size ≠ g from ⟨fun e => by have := HS12.out.hz.lt; omega, fun e => by have := HS12.out.hq.lt; omega⟩)
                have c24 := HS13.out.hq.c24 HL9.out
                rw [HRS6nn.out] at c24
                have z24 := frozen_of_row W13 g 24 _ 28 HS13.out.hq
                clear hW13 hi13
                go_upto_region 25 with (first
                  | ((with_reducible refine at_op ⟨some 58, _, _, _, _, _⟩ ?_); refine wpList_runW rfl (.agg (orA x)) (load_o rfl rfl HI12.out hxok) ?_)
                  | ((with_reducible refine at_op ⟨some 59, _, _, _, _, _⟩ ?_); refine wpList_runN rfl (.slice (some ⟨W12.heap.size, 0, none⟩) 1 1) W13 (by rw [HW13.out]; exact exec_one hxok rfl rfl) ?_)
                  | fail)
                obtain ⟨W14, hW⟩ : ∃ W14, W14 = W13.setCell ⟨g, 24, none⟩ (.slice (some ⟨W12.heap.size, 0, none⟩) 1 1) := ⟨_, rfl⟩
                change Code.wp _ _ _ _ (W13.setCell ⟨g, 24, none⟩ (.slice (some ⟨W12.heap.size, 0, none⟩) 1 1))
                rw [← hW]
                obtain ⟨q14, hqn⟩ : ∃ q14 : Pk, q14 = { q9 with rs := [x] } := ⟨_, rfl⟩
                have hf14 : Fr (fun j => j = g) W13 W14 := by rw [hW]; exact (Fr.refl (fun j => j = g) W13).setCell _ _ (fun _ => rfl)
                have ho14 : InO W14 W12.heap.size x := HI13.out.fr hf14 HGN.out.2
                have hr14 : RwO W14 W14.heap.size (some ⟨W12.heap.size, 0, none⟩) q14.rs := by
                  rw [hqn]
                  refine ⟨fun _ => ⟨_, _, rfl, ho14.lt⟩, fun b' o' he i y hy => ?_⟩
                  cases he
                  match i, hy with
                  | 0, hy =>
                    cases hy
                    simpa using AtL.row (cs := orc x) ho14
                have hn14 : DSt w b bb oo g W14 q14 (some ⟨W12.heap.size, 0, none⟩) 1 := HS13.out.put hf14 (by rw [hW, hqn]; exact HS13.out.hq.setc 24 _ (pkc_setb HL9.out 3 _ rfl rfl rfl rfl rfl rfl (by rw [HRS6nn.out]; rfl))) hr14 (fun b' o' he => by cases he; exact HGN.out)
                have HS14 := hid hn14
                have hraw : rawP b = q14 := by rw [HRAW.out, if_pos h56, hqn, HQ9.out, HQ7.out, HQ6.out, HQ4.out, HX.out]
                have HE := hid (show decP b = if rightP q14 = true ∧ formP q14 = b then (q14, true) else (pkZ, false) by rw [decP, if_neg HNS.out, hraw])
                have HOK := hid (show PkOk q14 by rw [← hraw]; exact raw_ok HBY.out)
                have HCL := hid (show q14.rs.length ≤ 1 ∧ 1 ≤ 9223372036854775807 by rw [hqn]; exact ⟨Nat.le_refl _, by omega⟩)
                clear hraw h56 HQ4 HQ6 HQ7 HQ9 HL4 HL6 HL7 HL9 HRAW HNS HRS HRSn HRS6 HRS6n HRS6nn H16 HGL hW hqn hf14 ho14 hr14 hn14 HX HS13 HS12 HI12 HI13 HW13 HGN c24 z24 e56
                have CR := hid (pkRight_any q14 HOK.out (some ⟨W12.heap.size, 0, none⟩) 1 W14 HS14.out.hr HCL.out)
                have HIP := hid HOK.out.ip.len
                cases hr : rightP q14 with
                | false =>
                  rw [hr] at CR HE
                  have HE2 : RowKit.Hid (decP b = (pkZ, false)) := hid (by rw [HE.out]; simp)
                  clear HE hr
                  go_wp2_with (first | ((with_reducible refine at_op ⟨some 89, _, _, _, _, _⟩ ?_); refine wpList_runW rfl (.agg (pkA q14 (some ⟨W12.heap.size, 0, none⟩) 1)) (load_p rfl rfl HS14.out.hq HIP.out) ?_) | fail)
                  refine CR.out.mono ?_
                  rintro e W3 ⟨rfl, hb3⟩
                  have HS3 := hid (HS14.out.call hb3)
                  clear hb3 HS14 CR
                  go_wp2_with (first | ((with_reducible refine at_op ⟨none, .store 28 (.tmp 2) (.tmp 99), _, _, _, _⟩ ?_); refine wpList_store_row rfl 28 _ _ rfl w.heap.size (pkA pkZ none 0) rfl rfl 28 (pkA pkZ none 0) HS3.out.hz HIZ.out rfl (pkA_one _ _ _) ?_) | fail)
                  refine pdec_ret (u := .bool false) rfl rfl rfl (setRow_heap _ _ _ _ _ _ HS3.out.hz) rfl (DecP.none HE2.out (below_setRow HS3.out.hw _ _ (Nat.le_refl _)))
                | true =>
                  have HRI := hid hr
                  rw [hr] at CR HE
                  clear hr
                  go_wp2_with (first | ((with_reducible refine at_op ⟨some 89, _, _, _, _, _⟩ ?_); refine wpList_runW rfl (.agg (pkA q14 (some ⟨W12.heap.size, 0, none⟩) 1)) (load_p rfl rfl HS14.out.hq HIP.out) ?_) | fail)
                  refine CR.out.mono ?_
                  rintro e W3 ⟨rfl, hb3⟩
                  have HS3 := hid (HS14.out.call hb3)
                  clear hb3 HS14 CR
                  go_wp2_with (first | ((with_reducible refine at_op ⟨some 93, _, _, _, _, _⟩ ?_); refine wpList_runW rfl (.agg (pkA q14 (some ⟨W12.heap.size, 0, none⟩) 1)) (load_p rfl rfl HS3.out.hq HIP.out) ?_) | fail)
                  refine (pkEncode_any q14 HOK.out HRI.out (some ⟨W12.heap.size, 0, none⟩) 1 W3 HS3.out.hr HCL.out).mono ?_
                  rintro e W4 ⟨v7, rfl, hown, hb4⟩
                  obtain ⟨a7, c7, rfl⟩ := own_form hown
                  have hfl := form_len HOK.out HRI.out
                  have hl1 : (formP q14).length ≤ 140737488351232 := by
                    rw [hfl]
                    split
                    · have := (rightP_1 HRI.out (by assumption)).1; omega
                    · split <;> omega
                  have hS4 := HS3.out.call hb4
                  have HSB := hid (SameBytes_any W4 a7 (some ⟨bb, oo, none⟩) c7 64 (formP q14).length n (formP q14) b rfl HN.out (own_bs hown) hS4.hb hl1 hl)
                  have HS4 := hid hS4
                  clear hown hb4 hS4 HS3 hfl hl1
                  go_wp2_with fail
                  refine HSB.out.mono ?_
                  rintro e W5 ⟨rfl, hb5⟩
                  have HS5 := hid (HS4.out.call hb5)
                  clear hb5 HSB HS4
                  by_cases hfb : formP q14 = b
                  · have hbq : (formP q14 == b) = true := by simpa using hfb
                    rw [hbq]
                    have HE2 : RowKit.Hid (decP b = (q14, true)) := hid (by rw [HE.out]; simp [hfb])
                    have HSO := hid (show (pkA pkZ none 0).size = (pkA q14 (some ⟨W12.heap.size, 0, none⟩) 1).size by rw [pkA_size HIP.out, pkA_size rfl])
                    have HIX := hid (show (Try.prog.info? 28).map (·.size) = some (pkA q14 (some ⟨W12.heap.size, 0, none⟩) 1).size by rw [pkA_size HIP.out]; exact szP)
                    clear HE hfb hbq
                    go_wp2_with (first
                      | ((with_reducible refine at_op ⟨some 100, _, _, _, _, _⟩ ?_); refine wpList_runW rfl (.agg (pkA q14 (some ⟨W12.heap.size, 0, none⟩) 1)) (load_p rfl rfl HS5.out.hq HIP.out) ?_)
                      | ((with_reducible refine at_op ⟨none, .store 28 (.tmp 2) (.tmp 100), _, _, _, _⟩ ?_); refine wpList_store_row rfl 28 _ _ rfl w.heap.size (pkA q14 (some ⟨W12.heap.size, 0, none⟩) 1) rfl rfl 28 (pkA pkZ none 0) HS5.out.hz HIX.out HSO.out (pkA_one _ _ _) ?_)
                      | fail)
                    refine pdec_ret (u := .bool true) rfl rfl rfl (setRow_heap _ _ _ _ _ _ HS5.out.hz) HIP.out (DecP.some HE2.out (HS5.out.hr.frn (Fr.of_setRow _ w.heap.size _) (fun b' o' he => (HS5.out.ho b' o' he).1)) HCL.out (below_setRow HS5.out.hw _ _ (Nat.le_refl _)))
                  · have hbq : (formP q14 == b) = false := by simpa using hfb
                    rw [hbq]
                    have HE2 : RowKit.Hid (decP b = (pkZ, false)) := hid (by rw [HE.out]; simp [hfb])
                    clear HE hfb hbq
                    go_wp2_with (first | ((with_reducible refine at_op ⟨none, .store 28 (.tmp 2) (.tmp 99), _, _, _, _⟩ ?_); refine wpList_store_row rfl 28 _ _ rfl w.heap.size (pkA pkZ none 0) rfl rfl 28 (pkA pkZ none 0) HS5.out.hz HIZ.out rfl (pkA_one _ _ _) ?_) | fail)
                    refine pdec_ret (u := .bool false) rfl rfl rfl (setRow_heap _ _ _ _ _ _ HS5.out.hz) rfl (DecP.none HE2.out (below_setRow HS5.out.hw _ _ (Nat.le_refl _)))
              · have hcne : ¬ (64 : Int) = (cap : Int) := by omega
                go_wp2_with fail
                refine (HDEC.out _ (.inl rfl)).mono ?_
                rintro e W11 ⟨rfl, hb11⟩
                obtain ⟨x, hx⟩ : ∃ x, x = (decO (b.drop 64)).1 := ⟨_, rfl⟩
                obtain ⟨xe, hxe⟩ : ∃ xe, xe = (decO (b.drop 64)).2 := ⟨_, rfl⟩
                rw [← hx, ← hxe]
                have hxok : OrfOk x := by rw [hx]; exact decO_ok (HBY.out.sub fun _ hy => List.mem_of_mem_drop hy)
                have HS11 := hid (HS9.out.call hb11)
                have hal : (W11.alloc (.cells (orA orZ) 58)).heap[W11.heap.size]? = some (.cells (orA orZ) 58 (0, 0)) := heap_alloc_new _ _
                have HAL := hid hal
                have HX := hid hx
                have HSZ := hid (show (orA orZ).size = (orA x).size by rw [orA_size hxok, orA_size orZ_ok])
                have HIO := hid (infoO hxok)
                clear hal hx hxe hb11 HDEC HS9
                go_upto_region 14 with (first | ((with_reducible refine at_op ⟨none, .store 58 (.tmp 5) (.tmp 56), _, _, _, _⟩ ?_); refine wpList_store_row rfl 58 _ _ rfl W11.heap.size (orA x) rfl rfl 58 (orA orZ) HAL.out HIO.out HSZ.out (orA_one _) ?_) | fail)
                obtain ⟨W12, hW⟩ : ∃ W12, W12 = (W11.alloc (.cells (orA orZ) 58)).setRow W11.heap.size (orA x) := ⟨_, rfl⟩
                change Code.wp _ _ _ _ ((W11.alloc (.cells (orA orZ) 58)).setRow W11.heap.size (orA x))
                rw [← hW]
                have hi12 : InO W12 W11.heap.size x := by rw [hW]; exact setRow_heap _ _ _ _ _ _ HAL.out
                have hb12 : Below W11.heap.size W11 W12 := by rw [hW]; exact below_setRow ((Below.refl _ _).alloc (Nat.le_refl _) _) _ _ (Nat.le_refl _)
                have HI12 := hid hi12
                have HS12 := hid (HS11.out.call hb12)
                clear hW hi12 hb12 HS11 HAL HSZ HIO
                obtain ⟨W13, hW13⟩ : ∃ W13, W13 = W12.alloc (.cells (orA x) 58) := ⟨_, rfl⟩
                have hi13 : InO W13 W12.heap.size x := by rw [hW13]; exact heap_alloc_new _ _
                have HS13 := hid (HS12.out.call (show Below W12.heap.size W12 W13 by rw [hW13]; exact (Below.refl _ _).alloc (Nat.le_refl _) _))
                have HI13 := hid hi13
                have HW13 := hid hW13
                have HGN := hid (show W12.heap.size ≠ w.heap.size ∧ W12.heap.size ≠ g from ⟨fun e => by have := HS12.out.hz.lt; omega, fun e => by have := HS12.out.hq.lt; omega⟩)
                have c24 := HS13.out.hq.c24 HL9.out
                rw [HRS6nn.out] at c24
                have z24 := frozen_of_row W13 g 24 _ 28 HS13.out.hq
                clear hW13 hi13
                go_upto_region 25 with (first
                  | ((with_reducible refine at_op ⟨some 58, _, _, _, _, _⟩ ?_); refine wpList_runW rfl (.agg (orA x)) (load_o rfl rfl HI12.out hxok) ?_)
                  | ((with_reducible refine at_op ⟨some 59, _, _, _, _, _⟩ ?_); refine wpList_runN rfl (.slice (some ⟨W12.heap.size, 0, none⟩) 1 1) W13 (by rw [HW13.out]; exact exec_one hxok rfl rfl) ?_)
                  | fail)
                obtain ⟨W14, hW⟩ : ∃ W14, W14 = W13.setCell ⟨g, 24, none⟩ (.slice (some ⟨W12.heap.size, 0, none⟩) 1 1) := ⟨_, rfl⟩
                change Code.wp _ _ _ _ (W13.setCell ⟨g, 24, none⟩ (.slice (some ⟨W12.heap.size, 0, none⟩) 1 1))
                rw [← hW]
                obtain ⟨q14, hqn⟩ : ∃ q14 : Pk, q14 = { q9 with rs := [x] } := ⟨_, rfl⟩
                have hf14 : Fr (fun j => j = g) W13 W14 := by rw [hW]; exact (Fr.refl (fun j => j = g) W13).setCell _ _ (fun _ => rfl)
                have ho14 : InO W14 W12.heap.size x := HI13.out.fr hf14 HGN.out.2
                have hr14 : RwO W14 W14.heap.size (some ⟨W12.heap.size, 0, none⟩) q14.rs := by
                  rw [hqn]
                  refine ⟨fun _ => ⟨_, _, rfl, ho14.lt⟩, fun b' o' he i y hy => ?_⟩
                  cases he
                  match i, hy with
                  | 0, hy =>
                    cases hy
                    simpa using AtL.row (cs := orc x) ho14
                have hn14 : DSt w b bb oo g W14 q14 (some ⟨W12.heap.size, 0, none⟩) 1 := HS13.out.put hf14 (by rw [hW, hqn]; exact HS13.out.hq.setc 24 _ (pkc_setb HL9.out 3 _ rfl rfl rfl rfl rfl rfl (by rw [HRS6nn.out]; rfl))) hr14 (fun b' o' he => by cases he; exact HGN.out)
                have HS14 := hid hn14
                have hraw : rawP b = q14 := by rw [HRAW.out, if_pos h56, hqn, HQ9.out, HQ7.out, HQ6.out, HQ4.out, HX.out]
                have HE := hid (show decP b = if rightP q14 = true ∧ formP q14 = b then (q14, true) else (pkZ, false) by rw [decP, if_neg HNS.out, hraw])
                have HOK := hid (show PkOk q14 by rw [← hraw]; exact raw_ok HBY.out)
                have HCL := hid (show q14.rs.length ≤ 1 ∧ 1 ≤ 9223372036854775807 by rw [hqn]; exact ⟨Nat.le_refl _, by omega⟩)
                clear hraw h56 HQ4 HQ6 HQ7 HQ9 HL4 HL6 HL7 HL9 HRAW HNS HRS HRSn HRS6 HRS6n HRS6nn H16 HGL hW hqn hf14 ho14 hr14 hn14 HX HS13 HS12 HI12 HI13 HW13 HGN c24 z24 e56
                have CR := hid (pkRight_any q14 HOK.out (some ⟨W12.heap.size, 0, none⟩) 1 W14 HS14.out.hr HCL.out)
                have HIP := hid HOK.out.ip.len
                cases hr : rightP q14 with
                | false =>
                  rw [hr] at CR HE
                  have HE2 : RowKit.Hid (decP b = (pkZ, false)) := hid (by rw [HE.out]; simp)
                  clear HE hr
                  go_wp2_with (first | ((with_reducible refine at_op ⟨some 89, _, _, _, _, _⟩ ?_); refine wpList_runW rfl (.agg (pkA q14 (some ⟨W12.heap.size, 0, none⟩) 1)) (load_p rfl rfl HS14.out.hq HIP.out) ?_) | fail)
                  refine CR.out.mono ?_
                  rintro e W3 ⟨rfl, hb3⟩
                  have HS3 := hid (HS14.out.call hb3)
                  clear hb3 HS14 CR
                  go_wp2_with (first | ((with_reducible refine at_op ⟨none, .store 28 (.tmp 2) (.tmp 99), _, _, _, _⟩ ?_); refine wpList_store_row rfl 28 _ _ rfl w.heap.size (pkA pkZ none 0) rfl rfl 28 (pkA pkZ none 0) HS3.out.hz HIZ.out rfl (pkA_one _ _ _) ?_) | fail)
                  refine pdec_ret (u := .bool false) rfl rfl rfl (setRow_heap _ _ _ _ _ _ HS3.out.hz) rfl (DecP.none HE2.out (below_setRow HS3.out.hw _ _ (Nat.le_refl _)))
                | true =>
                  have HRI := hid hr
                  rw [hr] at CR HE
                  clear hr
                  go_wp2_with (first | ((with_reducible refine at_op ⟨some 89, _, _, _, _, _⟩ ?_); refine wpList_runW rfl (.agg (pkA q14 (some ⟨W12.heap.size, 0, none⟩) 1)) (load_p rfl rfl HS14.out.hq HIP.out) ?_) | fail)
                  refine CR.out.mono ?_
                  rintro e W3 ⟨rfl, hb3⟩
                  have HS3 := hid (HS14.out.call hb3)
                  clear hb3 HS14 CR
                  go_wp2_with (first | ((with_reducible refine at_op ⟨some 93, _, _, _, _, _⟩ ?_); refine wpList_runW rfl (.agg (pkA q14 (some ⟨W12.heap.size, 0, none⟩) 1)) (load_p rfl rfl HS3.out.hq HIP.out) ?_) | fail)
                  refine (pkEncode_any q14 HOK.out HRI.out (some ⟨W12.heap.size, 0, none⟩) 1 W3 HS3.out.hr HCL.out).mono ?_
                  rintro e W4 ⟨v7, rfl, hown, hb4⟩
                  obtain ⟨a7, c7, rfl⟩ := own_form hown
                  have hfl := form_len HOK.out HRI.out
                  have hl1 : (formP q14).length ≤ 140737488351232 := by
                    rw [hfl]
                    split
                    · have := (rightP_1 HRI.out (by assumption)).1; omega
                    · split <;> omega
                  have hS4 := HS3.out.call hb4
                  have HSB := hid (SameBytes_any W4 a7 (some ⟨bb, oo, none⟩) c7 cap (formP q14).length n (formP q14) b rfl HN.out (own_bs hown) hS4.hb hl1 hl)
                  have HS4 := hid hS4
                  clear hown hb4 hS4 HS3 hfl hl1
                  go_wp2_with fail
                  refine HSB.out.mono ?_
                  rintro e W5 ⟨rfl, hb5⟩
                  have HS5 := hid (HS4.out.call hb5)
                  clear hb5 HSB HS4
                  by_cases hfb : formP q14 = b
                  · have hbq : (formP q14 == b) = true := by simpa using hfb
                    rw [hbq]
                    have HE2 : RowKit.Hid (decP b = (q14, true)) := hid (by rw [HE.out]; simp [hfb])
                    have HSO := hid (show (pkA pkZ none 0).size = (pkA q14 (some ⟨W12.heap.size, 0, none⟩) 1).size by rw [pkA_size HIP.out, pkA_size rfl])
                    have HIX := hid (show (Try.prog.info? 28).map (·.size) = some (pkA q14 (some ⟨W12.heap.size, 0, none⟩) 1).size by rw [pkA_size HIP.out]; exact szP)
                    clear HE hfb hbq
                    go_wp2_with (first
                      | ((with_reducible refine at_op ⟨some 100, _, _, _, _, _⟩ ?_); refine wpList_runW rfl (.agg (pkA q14 (some ⟨W12.heap.size, 0, none⟩) 1)) (load_p rfl rfl HS5.out.hq HIP.out) ?_)
                      | ((with_reducible refine at_op ⟨none, .store 28 (.tmp 2) (.tmp 100), _, _, _, _⟩ ?_); refine wpList_store_row rfl 28 _ _ rfl w.heap.size (pkA q14 (some ⟨W12.heap.size, 0, none⟩) 1) rfl rfl 28 (pkA pkZ none 0) HS5.out.hz HIX.out HSO.out (pkA_one _ _ _) ?_)
                      | fail)
                    refine pdec_ret (u := .bool true) rfl rfl rfl (setRow_heap _ _ _ _ _ _ HS5.out.hz) HIP.out (DecP.some HE2.out (HS5.out.hr.frn (Fr.of_setRow _ w.heap.size _) (fun b' o' he => (HS5.out.ho b' o' he).1)) HCL.out (below_setRow HS5.out.hw _ _ (Nat.le_refl _)))
                  · have hbq : (formP q14 == b) = false := by simpa using hfb
                    rw [hbq]
                    have HE2 : RowKit.Hid (decP b = (pkZ, false)) := hid (by rw [HE.out]; simp [hfb])
                    clear HE hfb hbq
                    go_wp2_with (first | ((with_reducible refine at_op ⟨none, .store 28 (.tmp 2) (.tmp 99), _, _, _, _⟩ ?_); refine wpList_store_row rfl 28 _ _ rfl w.heap.size (pkA pkZ none 0) rfl rfl 28 (pkA pkZ none 0) HS5.out.hz HIZ.out rfl (pkA_one _ _ _) ?_) | fail)
                    refine pdec_ret (u := .bool false) rfl rfl rfl (setRow_heap _ _ _ _ _ _ HS5.out.hz) rfl (DecP.none HE2.out (below_setRow HS5.out.hw _ _ (Nat.le_refl _)))
            · have d56 : (numP b 56 == 1) = false := by simpa using h56
              have hraw : rawP b = q9 := by rw [HRAW.out, if_neg h56, HQ9.out, HQ7.out, HQ6.out, HQ4.out]; exact pk_ext rfl rfl rfl rfl rfl rfl rfl rfl rfl HRS.out.symm
              have HE := hid (show decP b = if rightP q9 = true ∧ formP q9 = b then (q9, true) else (pkZ, false) by rw [decP, if_neg HNS.out, hraw])
              have HOK := hid (show PkOk q9 by rw [← hraw]; exact raw_ok HBY.out)
              have HCL := hid (show q9.rs.length ≤ 0 ∧ 0 ≤ 9223372036854775807 by rw [HRS6nn.out]; exact ⟨Nat.le_refl _, by omega⟩)
              clear hraw h56 HQ4 HQ6 HQ7 HQ9 HL4 HL6 HL7 HL9 HRAW HNS HRS HRSn HRS6 HRS6n HRS6nn H16 HGL
              go_upto_region 25 with (fail)
              have CR := hid (pkRight_any q9 HOK.out none 0 W9 HS9.out.hr HCL.out)
              have HIP := hid HOK.out.ip.len
              cases hr : rightP q9 with
              | false =>
                rw [hr] at CR HE
                have HE2 : RowKit.Hid (decP b = (pkZ, false)) := hid (by rw [HE.out]; simp)
                clear HE hr
                go_wp2_with (first | ((with_reducible refine at_op ⟨some 89, _, _, _, _, _⟩ ?_); refine wpList_runW rfl (.agg (pkA q9 none 0)) (load_p rfl rfl HS9.out.hq HIP.out) ?_) | fail)
                refine CR.out.mono ?_
                rintro e W3 ⟨rfl, hb3⟩
                have HS3 := hid (HS9.out.call hb3)
                clear hb3 HS9 CR
                go_wp2_with (first | ((with_reducible refine at_op ⟨none, .store 28 (.tmp 2) (.tmp 99), _, _, _, _⟩ ?_); refine wpList_store_row rfl 28 _ _ rfl w.heap.size (pkA pkZ none 0) rfl rfl 28 (pkA pkZ none 0) HS3.out.hz HIZ.out rfl (pkA_one _ _ _) ?_) | fail)
                refine pdec_ret (u := .bool false) rfl rfl rfl (setRow_heap _ _ _ _ _ _ HS3.out.hz) rfl (DecP.none HE2.out (below_setRow HS3.out.hw _ _ (Nat.le_refl _)))
              | true =>
                have HRI := hid hr
                rw [hr] at CR HE
                clear hr
                go_wp2_with (first | ((with_reducible refine at_op ⟨some 89, _, _, _, _, _⟩ ?_); refine wpList_runW rfl (.agg (pkA q9 none 0)) (load_p rfl rfl HS9.out.hq HIP.out) ?_) | fail)
                refine CR.out.mono ?_
                rintro e W3 ⟨rfl, hb3⟩
                have HS3 := hid (HS9.out.call hb3)
                clear hb3 HS9 CR
                go_wp2_with (first | ((with_reducible refine at_op ⟨some 93, _, _, _, _, _⟩ ?_); refine wpList_runW rfl (.agg (pkA q9 none 0)) (load_p rfl rfl HS3.out.hq HIP.out) ?_) | fail)
                refine (pkEncode_any q9 HOK.out HRI.out none 0 W3 HS3.out.hr HCL.out).mono ?_
                rintro e W4 ⟨v7, rfl, hown, hb4⟩
                obtain ⟨a7, c7, rfl⟩ := own_form hown
                have hfl := form_len HOK.out HRI.out
                have hl1 : (formP q9).length ≤ 140737488351232 := by
                  rw [hfl]
                  split
                  · have := (rightP_1 HRI.out (by assumption)).1; omega
                  · split <;> omega
                have hS4 := HS3.out.call hb4
                have HSB := hid (SameBytes_any W4 a7 (some ⟨bb, oo, none⟩) c7 cap (formP q9).length n (formP q9) b rfl HN.out (own_bs hown) hS4.hb hl1 hl)
                have HS4 := hid hS4
                clear hown hb4 hS4 HS3 hfl hl1
                go_wp2_with fail
                refine HSB.out.mono ?_
                rintro e W5 ⟨rfl, hb5⟩
                have HS5 := hid (HS4.out.call hb5)
                clear hb5 HSB HS4
                by_cases hfb : formP q9 = b
                · have hbq : (formP q9 == b) = true := by simpa using hfb
                  rw [hbq]
                  have HE2 : RowKit.Hid (decP b = (q9, true)) := hid (by rw [HE.out]; simp [hfb])
                  have HSO := hid (show (pkA pkZ none 0).size = (pkA q9 none 0).size by rw [pkA_size HIP.out, pkA_size rfl])
                  have HIX := hid (show (Try.prog.info? 28).map (·.size) = some (pkA q9 none 0).size by rw [pkA_size HIP.out]; exact szP)
                  clear HE hfb hbq
                  go_wp2_with (first
                    | ((with_reducible refine at_op ⟨some 100, _, _, _, _, _⟩ ?_); refine wpList_runW rfl (.agg (pkA q9 none 0)) (load_p rfl rfl HS5.out.hq HIP.out) ?_)
                    | ((with_reducible refine at_op ⟨none, .store 28 (.tmp 2) (.tmp 100), _, _, _, _⟩ ?_); refine wpList_store_row rfl 28 _ _ rfl w.heap.size (pkA q9 none 0) rfl rfl 28 (pkA pkZ none 0) HS5.out.hz HIX.out HSO.out (pkA_one _ _ _) ?_)
                    | fail)
                  refine pdec_ret (u := .bool true) rfl rfl rfl (setRow_heap _ _ _ _ _ _ HS5.out.hz) HIP.out (DecP.some HE2.out (HS5.out.hr.frn (Fr.of_setRow _ w.heap.size _) (fun b' o' he => (HS5.out.ho b' o' he).1)) HCL.out (below_setRow HS5.out.hw _ _ (Nat.le_refl _)))
                · have hbq : (formP q9 == b) = false := by simpa using hfb
                  rw [hbq]
                  have HE2 : RowKit.Hid (decP b = (pkZ, false)) := hid (by rw [HE.out]; simp [hfb])
                  clear HE hfb hbq
                  go_wp2_with (first | ((with_reducible refine at_op ⟨none, .store 28 (.tmp 2) (.tmp 99), _, _, _, _⟩ ?_); refine wpList_store_row rfl 28 _ _ rfl w.heap.size (pkA pkZ none 0) rfl rfl 28 (pkA pkZ none 0) HS5.out.hz HIZ.out rfl (pkA_one _ _ _) ?_) | fail)
                  refine pdec_ret (u := .bool false) rfl rfl rfl (setRow_heap _ _ _ _ _ _ HS5.out.hz) rfl (DecP.none HE2.out (below_setRow HS5.out.hw _ _ (Nat.le_refl _)))
end Go.Proofs.Ytceeipejhmnkfaa
