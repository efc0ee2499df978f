/-
  WeakTells' walk.
-/
import Derived.Test.YtmampaglemleoabWkV
import Derived.Test.YtmampaglemleoabHpS
namespace Go.Proofs.Ytmampaglemleoab
open Go Go.ChangeShapes Go.WideShapes Go.ChangeAt Go.RowKit

theorem allF_pairF : ∀ (L : List Spot) (k : Nat), allF k L = (pairF k L).map (·.1)
  | [], _ => rfl
  | s :: L, k => by
    have ih := allF_pairF L (k + 1)
    unfold allF pairF
    cases s.t with
    | true => simp only [if_true, List.map_cons]; rw [ih]
    | false => simp only [Bool.false_eq_true, if_false]; exact ih
theorem fs_bls (A : Ar) (L : WL) : fs (bls A L) = allF 0 A.L := by
  rw [allF_pairF]
  unfold fs bls
  rw [List.map_map]
  rfl
theorem sn_bls (A : Ar) (L : WL) : sn (bls A L) = (allF 0 A.L).map (tgt L) := by
  rw [allF_pairF]
  unfold sn bls
  rw [List.map_map, List.map_map]
  rfl
/-- A part of a row of one's own, from its beginning. -/
theorem Told.cut {T : TypeId} {f : Int → Value} {w : World} {a : Option Addr} {n c m : Nat} {xs : List Int} (h : Told T f w (.slice a n c) xs) (hm : m ≤ xs.length) : Told T f w (.slice a m c) (xs.take m) := by
  obtain ⟨a', c', hv, h1, h2, h3⟩ := h.ex
  cases hv
  refine ⟨a, c, by rw [List.length_take, Nat.min_eq_left hm], by rw [List.length_take]; omega, h2, fun hl => ?_⟩
  rw [List.length_take] at hl
  obtain ⟨b, o, h4, h5, h6⟩ := h3 (by omega)
  refine ⟨b, o, h4, h5, fun j u hu => h6 j u ?_⟩
  rw [List.getElem?_map, Option.map_eq_some_iff] at hu ⊢
  obtain ⟨x, hx, rfl⟩ := hu
  rw [List.getElem?_take] at hx
  split at hx
  · exact ⟨x, hx, rfl⟩
  · cases hx
theorem Told.at {T : TypeId} {f : Int → Value} {w : World} {a : Option Addr} {n c : Nat} {xs : List Int} (h : Told T f w (.slice a n c) xs) {i : Nat} {x : Int} (hx : xs[i]? = some x) : ∃ b o, a = some ⟨b, o, none⟩ ∧ w.cell? ⟨b, o + i, none⟩ = some (f x) := by
  obtain ⟨a', c', hv, h1, h2, h3⟩ := h.ex
  cases hv
  obtain ⟨b, o, h4, h5, h6⟩ := h3 (by have := (List.getElem?_eq_some_iff.1 hx).1; omega)
  exact ⟨b, o, h4, h6 i _ (by rw [List.getElem?_map, hx]; rfl)⟩
theorem Told.len {T : TypeId} {f : Int → Value} {w : World} {v : Value} {xs : List Int} (h : Told T f w v xs) : ∃ a c, v = .slice a xs.length c ∧ xs.length ≤ c ∧ c ≤ 9223372036854775807 := by
  obtain ⟨a, c, h1, h2, h3, _⟩ := h.ex
  exact ⟨a, c, h1, h2, h3⟩
theorem exec_toU {o : Oper} {f : Operand → Value} {W : World} {p h : Operand} {a : Option Addr} {n cap hi : Nat} (ho : o.op = .slice 31 p none (some h) none) (hp : f p = .slice a n cap) (hh : f h = .int .i64 hi) (h2 : hi ≤ cap) :
    (execOp f o).run Try.prog W = .ok (.value (.slice a hi cap)) W := by
  have e : a.map (·.add 0) = a := by cases a <;> simp [Addr.add]
  unfold execOp
  simp only [ho, hp]
  simp only [Option.map, hh]
  cases a with
  | none => go_simp
  | some a => go_simp
set_option maxRecDepth 100000 in
set_option maxHeartbeats 8000000 in
theorem WeakTells_any (w : World) (stop : Int) (ad : Option Addr) (c : Nat) (l : List WAct) (hl : RwW w w.heap.size ad l) (hll : l.length ≤ 9223372036854775807) (hst : Nm stop) :
    Calls Try.prog 4 #[.slice ad l.length c, .int .i64 stop] w fun e w' => e = .returned (.bool true) ∧ Below w.heap.size w w' := by
  have HN := hid (RpW.new 20 w (by omega))
  have HX := hid (fun W => RfT.new 20 W (by omega))
  have HL := hid hl
  have HST := hid hst
  clear hl hst
  go_enter Try.func4, Try.ntmps4
  go_wp2_with fail
  refine HN.out.mono ?_
  rintro e w1 ⟨hb1, p, S1, rfl, hS1, hR1⟩
  obtain ⟨pt, rfl⟩ := hR1.ptr
  have H1 := hid hR1
  have HB1 := hid hb1
  have HS1 := hid hS1
  clear hb1 hS1 hR1 HN
  go_wp2_with fail
  refine (HX.out w1).mono ?_
  rintro e w3 ⟨hb3, q, S3, rfl, hS3, hR3⟩
  obtain ⟨px2, rfl⟩ := hR3.ptr
  obtain ⟨w4, hw4⟩ : ∃ w4, w4 = w3.alloc (.cells #[.pointer (some ⟨pt, 0, none⟩), .pointer (some ⟨px2, 0, none⟩), .slice none 0 0] 33) := ⟨_, rfl⟩
  have HI := hid (WkPI.begin HB1.out HS1.out H1.out hb3 hS3 hR3 hw4)
  have HW4 := hid hw4
  obtain ⟨pp, hpp⟩ : ∃ pp, pp = w3.heap.size := ⟨_, rfl⟩
  rw [← hpp] at HI
  have HPP := hid hpp
  clear hb3 hS3 hR3 H1 HB1 HS1 HX hw4 hpp
  go_upto_region 3 with fail
  rw [← HW4.out, ← HPP.out]
  clear HW4 HPP
  go_wp2
  go_loopw [8] (fun i8 wr => ∃ (i : Nat), i ≤ l.length ∧ i ≤ 100 ∧ i8 = .int .i64 i ∧ RowKit.Hid (WkPI w pp (.pointer (some ⟨pt, 0, none⟩)) (.pointer (some ⟨px2, 0, none⟩)) i 20 wr)) (fun i8 _ => 100 - (intOf i8).toNat)
  case atStart => exact ⟨0, by omega, by omega, rfl, HI⟩
  case round =>
    obtain ⟨i, hil, hi100, rfl, HIi⟩ := hrel
    clear HI
    by_cases hgo : i < l.length ∧ i < 100
    · obtain ⟨hg1, hg2⟩ := hgo
      have hx : l[i]? = some (l[i]'hg1) := List.getElem?_eq_getElem hg1
      generalize l[i]'hg1 = x at hx
      obtain ⟨ab, ao, rfl, hab⟩ := HL.out.at_ (by omega)
      have HAT := hid ((HL.out.below HIi.out.below).rows ab ao rfl i x hx)
      have HOK := HL.out.ok x (List.mem_of_getElem? hx)
      have HDO := hid (HIi.out.do (by omega) HOK)
      clear hx HOK HIi
      go_wp2_with (first
        | ((with_reducible refine at_op ⟨some 38, _, _, _, _, _⟩ ?_); refine wpList_run rfl _ (load_wact rfl rfl HAT.out) ?_)
        | fail)
      refine HDO.out.mono ?_
      rintro e w5 ⟨rfl, h5⟩
      have H5 := hid h5
      clear h5 HDO HAT
      go_wp2
      go_roundw
      case rel => exact ⟨i + 1, by omega, by omega, by go_num, H5⟩
      case measure => simp [intOf]; omega
    · obtain ⟨S1, S2, s, G, gv, hP, _, _, hmost⟩ := HIi.out
      have hok := hP.t.ok
      have hlen : (allF 0 s.A.L).length ≤ 20 := by
        rw [allF_len]
        have h1 := cnt_le s.A.L
        have h2 := hok.ok.len
        omega
      have d1 := hP.c1
      obtain ⟨pa, d2, hall⟩ := hP.x.places
      have HALL := hid hall
      have HP := hid hP
      have HLEN := hid hlen
      have HOK := hid hok
      have hle : i = l.length ∨ (i < l.length ∧ 100 ≤ i) := by omega
      obtain ⟨N, hN⟩ : ∃ N, N = (allF 0 s.A.L).length := ⟨_, rfl⟩
      have hN20 : N ≤ 20 := by omega
      have HNN := hid hN
      clear HIi hgo hP hall hok hmost hlen hN
      rcases hle with rfl | ⟨hi1, hi2⟩
      all_goals
        go_wp2_with fail
        refine HALL.out.mono ?_
        rintro e w5 ⟨vw, rfl, hrow, hb5⟩
        have hP5 := HP.out.no (Fr.of_below hb5)
        have htw : Told TU u64v w5 vw (allF 0 s.A.L) := (⟨hrow, fun _ _ e => e⟩ : RowS TU u64v (fun _ => False) _ _ _ _).told
        obtain ⟨a0, ha0, htl⟩ := hP5.t.tells
        cases ha0
        have HTL := hid (told_any w5 _ _ 99 htl (by omega))
        obtain ⟨wa, wc, rfl, hwc1, hwc2⟩ := htw.len
        rw [← HNN.out] at hwc1 ⊢
        have HP5 := hid hP5
        have HTW := hid htw
        clear HALL hrow hb5 htl htw hP5 HP d1 d2
        go_wp2_with fail
        refine HTL.out.mono ?_
        rintro e w6 ⟨hb6, v1, v2, rfl, t1, t2⟩
        rw [fs_bls, List.take_of_length_le (by have := HLEN.out; omega)] at t1
        rw [sn_bls, List.take_of_length_le (by rw [List.length_map]; have := HLEN.out; omega)] at t2
        obtain ⟨a1, c1, rfl, hc11, hc12⟩ := t1.len
        obtain ⟨a2, c2, rfl, hc21, hc22⟩ := t2.len
        have hP6 := HP5.out.no (Fr.of_below hb6)
        have HTW6 := hid (HTW.out.below hb6)
        have T1 := hid t1
        have T2 := hid t2
        have HP6 := hid hP6
        have HPK := hid (Pick_any stop ((N : Int) + 1) w6 HST.out (by omega) (by omega))
        obtain ⟨k, hk, hkN⟩ : ∃ k : Nat, stop % ((N : Int) + 1) = (k : Int) ∧ k ≤ N := by
          have e1 := Int.emod_nonneg stop (show ((N : Int) + 1) ≠ 0 by omega)
          have e2 := Int.emod_lt_of_pos stop (show (0 : Int) < (N : Int) + 1 by omega)
          exact ⟨(stop % ((N : Int) + 1)).toNat, by omega, by omega⟩
        rw [hk] at HPK
        obtain ⟨a0, ha0, htl⟩ := hP6.t.tells
        cases ha0
        have HTL6 := hid (told_any w6 _ _ k htl (by omega))
        have hwN : IntKind.i64.wrap ((N : Int) + 1) = (N : Int) + 1 := IntWalk.i64_in _ (by omega)
        rw [List.length_map, ← HNN.out]
        rw [← HNN.out] at hc11
        rw [List.length_map, ← HNN.out] at hc21
        clear hb6 t1 t2 hP6 HTL HTW HP5 htl hk
        go_wp2_with fail
        refine HPK.out.mono ?_
        rintro e w' ⟨rfl, rfl⟩
        go_wp2_with fail
        refine HTL6.out.mono ?_
        rintro e w7 ⟨hb7, v3, v4, rfl, t3, t4⟩
        rw [fs_bls] at t3
        have HB7 := hid hb7
        have HTW7 := hid (HTW6.out.below hb7)
        have HP7 := hid (HP6.out.no (Fr.of_below hb7))
        have HSL := hid (SameLongs_told w7 _ _ _ (T1.out.below hb7) HTW7.out)
        have T27 := hid (T2.out.below hb7)
        have T17 := hid (T1.out.below hb7)
        have T3 := hid t3
        clear hb7 t3 t4 HTL6 HPK HP6 T1 T2 HTW6 HB7
        rw [← HNN.out] at HSL
        go_wp2_with fail
        refine HSL.out.mono ?_
        rintro e w8 ⟨rfl, hb8⟩
        have HTW8 := hid ((HTW7.out.below hb8).cut (m := k) (by rw [← HNN.out]; exact hkN))
        have HSL2 := hid (SameLongs_told w8 v3 _ _ (T3.out.below hb8) HTW8.out)
        have HP8 := hid (HP7.out.no (Fr.of_below hb8))
        have T28 := hid (T27.out.below hb8)
        have T18 := hid (T17.out.below hb8)
        clear hb8 HSL HP7 T27 T17 HTW7
        go_wp2_with (first
          | ((with_reducible refine at_op ⟨some 72, _, _, _, _, _⟩ ?_); refine wpList_runW rfl _ (exec_toU rfl rfl rfl (show k ≤ wc by omega)) ?_)
          | fail)
        refine HSL2.out.mono ?_
        rintro e w9 ⟨rfl, hb9⟩
        have HP9 := hid (HP8.out.no (Fr.of_below hb9))
        have T29 := hid (T28.out.below hb9)
        have T19 := hid (T18.out.below hb9)
        clear hb9 HSL2 HP8 T28 T18 HTW8 T3
        go_wp2
        go_loopw [15] (fun i15 wr => ∃ (j : Nat), j ≤ N ∧ i15 = .int .i64 j ∧ RowKit.Hid (Fr (fun _ => False) w9 wr)) (fun i15 _ => N - (intOf i15).toNat)
        case atStart => exact ⟨0, by omega, rfl, hid (Fr.refl _ _)⟩
        case round =>
          obtain ⟨j, hj, rfl, HF⟩ := hrel
          by_cases hjN : j < N
          · have hx : (allF 0 s.A.L)[j]? = some ((allF 0 s.A.L)[j]'(by have := HNN.out; omega)) := List.getElem?_eq_getElem _
            generalize (allF 0 s.A.L)[j]'(by have := HNN.out; omega) = h at hx
            have hfd := HF.out.drew
            have hB : Below w9.heap.size w9 wr.drew := hfd.below (Nat.le_refl _) (fun _ e => e.elim)
            obtain ⟨b1, o1, rfl, e4⟩ := (T19.out.below hB).at hx
            obtain ⟨b2, o2, rfl, e1⟩ := (T29.out.below hB).at (x := tgt s.L h) (by rw [List.getElem?_map, hx]; rfl)
            have hPd := HP9.out.no hfd
            have e2 := hPd.c1
            have hmem : ∃ b ∈ s.L, b.h = h := by
              have hm := List.mem_of_getElem? hx
              rw [allF_pairF] at hm
              obtain ⟨y, hy, rfl⟩ := List.mem_map.1 hm
              obtain ⟨ii, sp, q1, q2, rfl⟩ := pairF_mem _ _ _ hy
              obtain ⟨b, hb, e⟩ := HOK.out.co ii sp q1 q2
              exact ⟨b, hb, by rw [e, Nat.zero_add]⟩
            obtain ⟨b0, hb0, hbh0⟩ := hmem
            obtain ⟨i0, hi0, hi0b⟩ := List.getElem_of_mem hb0
            have hib0 : s.L[i0]? = some b0 := by rw [List.getElem?_eq_getElem hi0, hi0b]
            obtain ⟨gg, nn, kk, e3, _, k3, _⟩ := hPd.x.thing hib0
            have HATc := hid (hPd.x.at h)
            have HPD := hid hPd
            have HFD := hid hfd
            have HB0 := hid hb0
            have HBH0 := hid hbh0
            clear hx hfd hB hPd hb0 hbh0 hi0b hib0 hi0 HF
            go_wp2
            refine D.wp_region_mix [0, 0, 0, 1, 0, 0, 0, 1, 0, 0, 1, 0, 0, 0, 1, 0, 0, 0, 1, 2, 0, 0, 1, 0] (fun W => W = wr.drew) (by kernel_rfl) (by kernel_rfl) rfl ?_
            repeat (first
              | (refine' C.wpMix_value _ rfl rfl _ _; rotate_left; (solve | (intro W; go_simp) | (intro W; go_simp; with_reducible rfl)); simp only [Act.put, List.setIfInBounds_toArray, List.set_cons_zero, List.set_cons_succ])
              | (refine' C.wpMix_read _ rfl rfl _ _; rotate_left; (solve | (rintro W rfl; go_simp) | (rintro W rfl; go_simp; with_reducible rfl)); simp only [Act.put, List.setIfInBounds_toArray, List.set_cons_zero, List.set_cons_succ]))
            refine C.wpMix_call 16 #[.pointer (some ⟨px2, 0, none⟩), .int .u64 h] (by decide) rfl (by go_simp) ?_
            refine HATc.out.mono ?_
            rintro e w' ⟨rfl, ⟨i', b, hib, hbh, rfl⟩ | ⟨hno, rfl⟩⟩
            · refine ⟨_, rfl, fun _ => rfl, ?_⟩
              simp only [Act.put, List.setIfInBounds_toArray, List.set_cons_zero, List.set_cons_succ]
              obtain ⟨gg', nn', kk', e3', k2', _, _, _, e5, _⟩ := HPD.out.x.thing hib
              have he := e3.symm.trans e3'
              simp only [Option.some.injEq, Value.slice.injEq, Addr.mk.injEq, and_true] at he
              obtain ⟨rfl, rfl, rfl⟩ := he
              have htt : tgt s.L h = b.t := by unfold tgt; rw [← hbh, fb_mem HOK.out.nd (List.mem_of_getElem? hib)]; rfl
              rw [htt] at e1 ⊢
              clear e3' hib hbh htt HATc HB0 HBH0
              repeat (first
                | (refine' C.wpMix_value _ rfl rfl _ _; rotate_left; (solve | (intro W; go_simp) | (intro W; go_simp; with_reducible rfl)); simp only [Act.put, List.setIfInBounds_toArray, List.set_cons_zero, List.set_cons_succ])
                | (refine' C.wpMix_read _ rfl rfl _ _; rotate_left; (solve | (rintro W rfl; go_simp) | (rintro W rfl; go_simp; with_reducible rfl)); simp only [Act.put, List.setIfInBounds_toArray, List.set_cons_zero, List.set_cons_succ]))
              refine C.wpMix_end ?_
              clear e1 e2 e3 e4 e5 HPD
              go_wp2
              go_roundw
              case rel => exact ⟨j + 1, by omega, by go_num, HFD⟩
              case measure => simp [intOf]; omega
            · exact absurd HBH0.out (fb_none.1 hno b0 HB0.out)
          · obtain rfl : j = N := by omega
            have HB := hid (HP9.out.below.trans ((HF.out.below (Nat.le_refl _) (fun _ e => e.elim)).mono HP9.out.below.size))
            clear HF HP9
            go_wp2_with (refine (wawake wr).mono ?_; rintro e w2 ⟨rfl, hb2⟩)
            go_ret
            exact ⟨rfl, HB.out.trans (hb2.mono HB.out.size)⟩
end Go.Proofs.Ytmampaglemleoab
