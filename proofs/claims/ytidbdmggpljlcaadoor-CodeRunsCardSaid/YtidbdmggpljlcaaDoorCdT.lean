/-
  The laws of layer 9: CodeRuns.
-/
import Derived.Test.YtidbdmggpljlcaaDoorCdS
namespace Go.Proofs.YtidbdmggpljlcaaDoor
open Go Go.ChangeShapes Go.WideShapes Go.ChangeAt Go.RowKit

set_option maxRecDepth 100000 in
set_option maxHeartbeats 8000000 in
theorem CodeRuns_any (w : World) (HC : CkC w) (HA : AwC w) (ls : List Ins) (ad : Option Addr) (n c : Nat) (s bt : Int) (hok : ∀ x ∈ ls, InsOk x) (hs : J64 s) (hr : RwI w w.heap.size ad ls) (hn : n = ls.length) (hc : n ≤ c) (hc2 : c ≤ 9223372036854775807) :
    Calls Tryd.prog 5 #[.slice ad n c, .int .i64 s, .int .u64 bt] w fun e w' => e = .returned (.bool true) ∧ Below w.heap.size w w' := by
  have HAW := hid HA
  have HOK := hid hok
  have HR := hid hr
  have HN := hid hn
  have HG := hid (fun w => great_any ad n c w)
  have hcc1 := hc
  have hcc2 := hc2
  have C1 := hid (HC ls s ad n c w (Below.refl _ _) hok hs hr hn hc hc2)
  unfold CkP at C1
  clear hok hr hn hc hc2 HC HA hs
  by_cases hg : 60 < n
  · have d1 : decide (60 < n) = true := decide_eq_true hg
    rw [d1] at HG
    clear hg
    go_enter Tryd.func5, Tryd.ntmps5
    go_wp2_with fail
    refine (HG.out _).mono ?_
    rintro e w2 ⟨rfl, rfl⟩
    go_wp2_with fail
    refine (HAW.out _ (by first | exact Below.refl _ _ | exact HB.out | exact HB1.out | exact HB2.out | exact HB3.out | exact HB4.out | exact HB5.out | exact HB6.out | exact HB7.out | exact HB8.out | exact HB9.out | exact HB10.out | exact HB11.out | exact HBr.out | exact HB11.out.trans (HBr.out.mono HB11.out.size))).mono ?_
    rintro e w3 ⟨rfl, hb3⟩
    have HB3 := hid hb3
    clear hb3
    go_wp2
    go_ret
    exact ⟨rfl, HB3.out⟩
  have d1 : decide (60 < n) = false := decide_eq_false hg
  rw [d1] at HG
  clear hg d1
  go_enter Tryd.func5, Tryd.ntmps5
  go_wp2_with fail
  refine (HG.out _).mono ?_
  rintro e w2 ⟨rfl, rfl⟩
  go_wp2_with fail
  refine C1.out.mono ?_
  rintro e w3 ⟨rfl, hb3⟩
  have HB3 := hid hb3
  have HR3 := hid (HR.out.on hb3)
  clear hb3 C1 HG
  by_cases he : (heightP ls s).2.2 = 0
  case neg =>
    have hce : (checkP ls s).2.2 = (heightP ls s).2.2 := by unfold checkP; rw [if_neg he]
    have d2 : ((checkP ls s).2.2 != 0) = true := by rw [hce]; simpa using he
    generalize checkP ls s = k at *
    clear he hce
    go_wp2_with fail
    refine (HAW.out _ (by first | exact Below.refl _ _ | exact HB.out | exact HB1.out | exact HB2.out | exact HB3.out | exact HB4.out | exact HB5.out | exact HB6.out | exact HB7.out | exact HB8.out | exact HB9.out | exact HB10.out | exact HB11.out | exact HBr.out | exact HB11.out.trans (HBr.out.mono HB11.out.size))).mono ?_
    rintro e w5 ⟨rfl, hb5⟩
    have HB5 := hid (HB3.out.trans (hb5.mono HB3.out.size))
    clear hb5
    go_wp2
    go_ret
    exact ⟨rfl, HB5.out⟩
  have hrc := right_of he
  obtain ⟨h, hh⟩ : ∃ h, h = (heightP ls s).1 := ⟨_, rfl⟩
  rw [← hh] at hrc
  have hlen := run_small_len hrc.2.2
  rw [check_right hrc]
  have hsm := (run_small ls.length hrc.2.2 (Nat.le_refl _)).2
  obtain ⟨mo, hmo⟩ : ∃ mo, mo = mostP ls s h h.length := ⟨_, rfl⟩
  have hmb := most_small (ls := ls) (s := s) (h := h) (m := h.length) (fun k hk x hx => (hsm k (by omega) x hx).2.2) h.length (Nat.le_refl _)
  have HMG := hid (fun i (x : Ins) (hi : i < ls.length) (hx : ls[i]? = some x) => show leftP x s (h.getD i 0) ≤ mo by rw [hmo]; exact most_ge h.length i (by omega) hx)
  rw [← hmo] at hmb ⊢
  have HRC := hid hrc
  have hn1 : 1 ≤ n := by have := HN.out; have := hrc.1; omega
  have hn32 : n ≤ 32 := by have := HN.out; have := hrc.2.1; omega
  have HF := hid (show h.getD 0 0 = 0 from (right_at hrc (i := 0) (by have := HN.out; omega) (List.getElem?_eq_getElem (by have := HN.out; omega))).first rfl)
  obtain ⟨b, o, rfl, _⟩ := HR3.out.at_ (by have := HN.out; omega)
  obtain ⟨mb1, mb2⟩ := hmb
  clear he hrc hh hlen hsm hmo
  go_wp2
  go_loopw [2, 10, 11] (fun bv nv iv wr => ∃ (i : Nat) (v bb : Int), i < n ∧ iv = .int .i64 i ∧ nv = .int .i64 v ∧ bv = .int .u64 bb ∧ RowKit.Hid (v = h.getD i 0) ∧ RowKit.Hid (Below w.heap.size w wr)) (fun _ _ iv _ => n - (intOf iv).toNat)
  case atStart => exact ⟨0, 0, bt, by omega, rfl, rfl, rfl, hid HF.out.symm, HB3⟩
  case round =>
    obtain ⟨i, v, bb, hi, rfl, rfl, rfl, HV, HB⟩ := hrel
    obtain ⟨x, hx⟩ : ∃ x, ls[i]? = some x := ⟨_, List.getElem?_eq_getElem (by have := HN.out; omega)⟩
    have hin : i < ls.length := by have := HN.out; omega
    have hA := right_at HRC.out hin hx
    have hmg := HMG.out i x hin hx
    have HAT := hid (show AtL wr b (o + i * 3) (insc x) from ((HR.out.on HB.out).rows b o rfl i x hx))
    have c0 : wr.cell? ⟨b, o + i * 3, none⟩ = some (.int .i64 x.op) := by simpa using HAT.out 0 _ rfl
    have c1 : wr.cell? ⟨b, o + i * 3 + 1, none⟩ = some (.int .i64 x.a) := HAT.out 1 _ rfl
    obtain ⟨a1, a2, a3, a4, a5, a6, a7, a8, a9, a10⟩ := hA
    rw [← HV.out] at a2 a3 a4 a5 hmg
    have HNX := hid (fun i' (hg : goesP x i i' = true) (hi' : i < i') (hn' : i' < n) => (right_at HRC.out (i := i') (by have := HN.out; omega) (List.getElem?_eq_getElem (by have := HN.out; omega))).from_ i hi' x hx hg)
    rw [← HV.out] at HNX
    by_cases h11 : x.op = 11
    · have hv1 := a4 h11
      rw [h11] at c0
      have d3 : (v == 1) = true := by simp [hv1]
      clear a1 a2 a3 a4 a5 a6 a7 a8 a9 a10 hv1 h11 hin hx hmg c1
      go_wp2_with fail
      refine (HAW.out _ (by first | exact Below.refl _ _ | exact HB.out | exact HB1.out | exact HB2.out | exact HB3.out | exact HB4.out | exact HB5.out | exact HB6.out | exact HB7.out | exact HB8.out | exact HB9.out | exact HB10.out | exact HB11.out | exact HBr.out | exact HB11.out.trans (HBr.out.mono HB11.out.size))).mono ?_
      rintro e w5 ⟨rfl, hb5⟩
      have HB5 := hid (HB.out.trans (hb5.mono HB.out.size))
      clear hb5
      go_wp2
      go_ret
      exact ⟨rfl, HB5.out⟩
    obtain ⟨o1, o2, hleft⟩ := left_op (v := v) a1 h11
    have hon := a6 h11
    have hsk := a7
    have hlo : 0 ≤ leftP x s v := by unfold leftP; have := shape_le x s; omega
    have hnx1 := HNX.out (i + 1) (goes_of h11 (.inl rfl)) (by omega) (by have := HN.out; omega)
    have HL := hid hleft
    obtain ⟨lf, hlf⟩ : ∃ lf, lf = leftP x s v := ⟨_, rfl⟩
    rw [← hlf] at hlo a5 hmg hnx1 HNX HL
    have HNX1 := hid hnx1
    have hn2 : i + 1 < n := by have := HN.out; omega
    have HNG := hid (show ∀ i' : Nat, x.op = 7 → x.a = (i' : Int) - i - 1 → i < i' → i' < n → h.getD i' 0 = lf from fun i' h7 ha h1 h2 => HNX.out i' (goes_of h11 (.inr ⟨h7, ha⟩)) h1 h2)
    have HSK := hid (show x.op = 7 → 1 ≤ x.a ∧ x.a ≤ (n : Int) - 2 - i from fun h7 => by
      refine ⟨?_, by have := hsk h7; have := HN.out; omega⟩
      unfold shapeP at a1
      rw [if_neg (by omega), if_neg (by omega), if_neg (by omega), if_neg (by omega), if_neg (by omega), if_pos h7] at a1
      simp only [Bool.and_eq_true, decide_eq_true_eq] at a1
      exact a1.1)
    generalize x.op = op at *
    generalize x.a = xa at *
    have HH11 := hid h11
    clear a1 a2 a4 a6 a7 a8 a9 a10 hin hx hleft hon hsk hnx1 HNX hlf h11
    rcases (show op = 1 ∨ op = 2 ∨ op = 3 ∨ op = 4 ∨ op = 5 ∨ op = 6 ∨ op = 7 ∨ op = 8 ∨ op = 9 ∨ op = 10 by omega) with rfl | rfl | rfl | rfl | rfl | rfl | rfl | rfl | rfl | rfl
    · have hl : lf = v + 1 := HL.out
      have wv : IntKind.i64.wrap (v + 1) = lf := by rw [hl]; exact IntWalk.i64_in _ (by omega)
      have HLV := hid hl
      clear hl HL
      clear HSK HNG
      go_wp2
      go_roundw
      case rel => exact ⟨i + 1, lf, bb, by omega, by go_num, rfl, rfl, hid HNX1.out.symm, HB⟩
      case measure => simp [intOf]; omega
    · have hl : lf = v + 1 := HL.out
      have wv : IntKind.i64.wrap (v + 1) = lf := by rw [hl]; exact IntWalk.i64_in _ (by omega)
      have HLV := hid hl
      clear hl HL
      clear HSK HNG
      go_wp2
      go_roundw
      case rel => exact ⟨i + 1, lf, bb, by omega, by go_num, rfl, rfl, hid HNX1.out.symm, HB⟩
      case measure => simp [intOf]; omega
    · have hl : lf = v + 1 := HL.out
      have wv : IntKind.i64.wrap (v + 1) = lf := by rw [hl]; exact IntWalk.i64_in _ (by omega)
      have HLV := hid hl
      clear hl HL
      clear HSK HNG
      go_wp2
      go_roundw
      case rel => exact ⟨i + 1, lf, bb, by omega, by go_num, rfl, rfl, hid HNX1.out.symm, HB⟩
      case measure => simp [intOf]; omega
    · have hl : lf = v + -1 := HL.out
      have wv : IntKind.i64.wrap (v - 1) = lf := by rw [hl]; exact IntWalk.i64_in _ (by omega)
      have HLV := hid hl
      clear hl HL
      clear HSK HNG
      go_wp2
      go_roundw
      case rel => exact ⟨i + 1, lf, bb, by omega, by go_num, rfl, rfl, hid HNX1.out.symm, HB⟩
      case measure => simp [intOf]; omega
    · have hl : lf = v + -1 := HL.out
      have wv : IntKind.i64.wrap (v - 1) = lf := by rw [hl]; exact IntWalk.i64_in _ (by omega)
      have HLV := hid hl
      clear hl HL
      clear HSK HNG
      go_wp2
      go_roundw
      case rel => exact ⟨i + 1, lf, bb, by omega, by go_num, rfl, rfl, hid HNX1.out.symm, HB⟩
      case measure => simp [intOf]; omega
    · have hl : lf = v + 0 := HL.out
      obtain rfl : v = lf := by omega
      have HLV := hid hl
      clear hl HL
      clear HSK HNG
      go_wp2
      go_roundw
      case rel => exact ⟨i + 1, v, bb, by omega, by go_num, rfl, rfl, hid HNX1.out.symm, HB⟩
      case measure => simp [intOf]; omega
    · have hl : lf = v + -1 := HL.out
      have wv : IntKind.i64.wrap (v - 1) = lf := by rw [hl]; exact IntWalk.i64_in _ (by omega)
      have HLV := hid hl
      clear hl HL
      obtain ⟨k1, k2⟩ := HSK.out rfl
      obtain ⟨xk, hxk⟩ : ∃ xk : Nat, xa = (xk : Int) := ⟨xa.toNat, by omega⟩
      subst hxk
      have HGO := hid (HNG.out (i + 1 + xk) rfl (by omega) (by omega) (by omega))
      have wi : IntKind.i64.wrap ((i : Int) + xk) = ((i + xk : Nat) : Int) := by rw [IntWalk.i64_in _ (by omega)]; omega
      by_cases hbit : bits .and .u64 bb 1 = 1
      · have d9 : (bits .and .u64 bb 1 == 1) = true := by simpa using hbit
        clear hbit HSK HNG
        go_wp2
        go_roundw
        case rel => exact ⟨i + 1 + xk, lf, _, by omega, by go_num, rfl, rfl, hid HGO.out.symm, HB⟩
        case measure => simp [intOf]; omega
      · have d9 : (bits .and .u64 bb 1 == 1) = false := by simpa using hbit
        clear hbit HSK HNG
        go_wp2
        go_roundw
        case rel => exact ⟨i + 1, lf, _, by omega, by go_num, rfl, rfl, hid HNX1.out.symm, HB⟩
        case measure => simp [intOf]; omega
    · have hl : lf = v + 0 := HL.out
      obtain rfl : v = lf := by omega
      have HLV := hid hl
      clear hl HL
      clear HSK HNG
      go_wp2
      go_roundw
      case rel => exact ⟨i + 1, v, bb, by omega, by go_num, rfl, rfl, hid HNX1.out.symm, HB⟩
      case measure => simp [intOf]; omega
    · have hl : lf = v + 0 := HL.out
      obtain rfl : v = lf := by omega
      have HLV := hid hl
      clear hl HL
      clear HSK HNG
      go_wp2
      go_roundw
      case rel => exact ⟨i + 1, v, bb, by omega, by go_num, rfl, rfl, hid HNX1.out.symm, HB⟩
      case measure => simp [intOf]; omega
    · have hl : lf = v + 0 := HL.out
      obtain rfl : v = lf := by omega
      have HLV := hid hl
      clear hl HL
      clear HSK HNG
      go_wp2
      go_roundw
      case rel => exact ⟨i + 1, v, bb, by omega, by go_num, rfl, rfl, hid HNX1.out.symm, HB⟩
      case measure => simp [intOf]; omega
end Go.Proofs.YtidbdmggpljlcaaDoor
