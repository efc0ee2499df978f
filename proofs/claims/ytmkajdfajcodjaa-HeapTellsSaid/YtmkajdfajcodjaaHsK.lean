/-
  HeapPlays' walk.
-/
import Derived.Test.YtmkajdfajcodjaaHsJ
namespace Go.Proofs.Ytmkajdfajcodjaa
open Go Go.ChangeShapes Go.WideShapes Go.ChangeAt Go.RowKit Go.Maps

set_option maxRecDepth 100000 in
/-- A pair, begun. -/
theorem begun_any (most top : Int) (w : World) (hm : Nm most) (ht : U32 top) (h : 1 ≤ most ∧ most ≤ 256 ∧ top ≠ 0) :
    Calls Try.prog 13 #[.int .i64 most, .int .u32 top] w fun e w' => ∃ pp vT vX, e = .returned (.pointer (some ⟨pp, 0, none⟩)) ∧ HsPI w pp vT vX 0 (Go.Proofs.Ytmkajdfajcodjaa.new most.toNat 1).most w' := by
  have HN := hid (HNew_any most top w hm ht)
  have HX := hid (fun W => RfNew_any most top W ht)
  simp only [if_pos h] at HN HX
  clear hm ht h
  go_enter Try.func13, Try.ntmps13
  go_wp2_with fail
  refine HN.out.mono ?_
  rintro e w1 ⟨hb1, p, S1, rfl, hS1, hR1⟩
  obtain ⟨pt, rfl⟩ := hR1.ptr
  have HB1 := hid hb1
  have HS1 := hid hS1
  have HR1 := hid hR1
  clear hb1 hS1 hR1 HN
  go_wp2_with fail
  refine (HX.out w1).mono ?_
  rintro e w2 ⟨hb2, q, S2, rfl, hS2, hR2⟩
  obtain ⟨px, rfl⟩ := hR2.ptr
  have HB2 := hid hb2
  have HS2 := hid hS2
  have HR2 := hid hR2
  clear hb2 hS2 hR2 HX
  go_wp2
  go_ret
  exact ⟨_, _, _, rfl, HsPI.begin HB1.out HS1.out HR1.out HB2.out HS2.out HR2.out rfl⟩
theorem HsPI.alike {w0 w : World} {pp i k : Nat} {vT vX : Value} (h : HsPI w0 pp vT vX i k w) (hi : i ≤ 300) (hk : k ≤ 256) :
    Calls Try.prog 15 #[.pointer (some ⟨pp, 0, none⟩)] w fun e w' => e = .returned (.bool true) ∧ Below w.heap.size w w' := by
  obtain ⟨S1, S2, s, G, gv, h1, h2, h3⟩ := h
  exact alike_any h1 (by omega) (by omega)
set_option maxRecDepth 100000 in
set_option maxHeartbeats 4000000 in
theorem HeapPlays_any (w : World) (most top : Int) (ad : Option Addr) (c : Nat) (l : List HAct) (hm : Nm most) (ht : U32 top) (hl : RwH w w.heap.size ad l) (hll : l.length ≤ 9223372036854775807) :
    Calls Try.prog 3 #[.int .i64 most, .int .u32 top, .slice ad l.length c] w fun e w' => e = .returned (.bool true) ∧ Below w.heap.size w w' := by
  have HAW := hid (heapC w).awk
  by_cases h : 1 ≤ most ∧ most ≤ 256 ∧ top ≠ 0
  · have HN := hid (HNew_any most top w hm ht)
    have HX := hid (fun W => RfNew_any most top W ht)
    have HBG := hid (fun W => begun_any most top W hm ht h)
    simp only [if_pos h] at HN HX
    have HL := hid hl
    have hmk : (new most.toNat 1).most ≤ 256 := by
      have : (new most.toNat 1).most = most.toNat := rfl
      omega
    have HMK := hid hmk
    clear hm ht h hl hmk
    go_enter Try.func3, Try.ntmps3
    go_wp2_with fail
    refine HN.out.mono ?_
    rintro e w1 ⟨hb1, p, S1, rfl, hS1, hR1⟩
    obtain ⟨pt, rfl⟩ := hR1.ptr
    clear hS1 hR1 HN
    go_wp2_with fail
    refine (HX.out w1).mono ?_
    rintro e w2 ⟨hb2, q, S2, rfl, hS2, hR2⟩
    obtain ⟨px, rfl⟩ := hR2.ptr
    have HB2 := hid (hb1.trans (hb2.mono hb1.size))
    clear hb1 hb2 hS2 hR2 HX
    go_wp2_with fail
    refine (HBG.out w2).mono ?_
    rintro e w3 ⟨pp, vT, vX, rfl, hI⟩
    have HI := hid hI
    have HLL := hid hll
    clear hI HBG
    go_wp2
    go_loopw [10] (fun i wr => ∃ k : Nat, k ≤ l.length ∧ k ≤ 120 ∧ i = .int .i64 k ∧ RowKit.Hid (HsPI w2 pp vT vX k (new most.toNat 1).most wr)) (fun i _ => 120 - (intOf i).toNat)
    case atStart => exact ⟨0, Nat.zero_le _, by omega, rfl, HI⟩
    case round =>
      obtain ⟨k, hkl, hk120, rfl, HIk⟩ := hrel
      clear HI
      by_cases hgo : k < l.length ∧ k < 120
      · obtain ⟨hg1, hg2⟩ := hgo
        have hx : l[k]? = some (l[k]'hg1) := List.getElem?_eq_getElem hg1
        generalize l[k]'hg1 = x at hx
        obtain ⟨ab, ao, rfl, hab⟩ := HL.out.at_ (by omega)
        have hbw : Below w.heap.size w wr := HB2.out.trans (HIk.out.below.mono HB2.out.size)
        have HAT := hid ((HL.out.below hbw).rows ab ao rfl k x hx)
        have HOK := HL.out.ok x (List.mem_of_getElem? hx)
        have HDO := hid (HIk.out.do (by omega) HOK)
        clear hx HOK HIk hbw
        go_wp2_with (first
          | ((with_reducible refine at_op ⟨some 51, _, _, _, _, _⟩ ?_); refine wpList_run rfl _ (load_act rfl rfl HAT.out) ?_)
          | fail)
        refine HDO.out.mono ?_
        rintro e w5 ⟨rfl, h5⟩
        have H5 := hid h5
        clear h5 HDO HAT
        go_wp2
        go_roundw
        case rel => exact ⟨k + 1, by omega, by omega, by go_num, H5⟩
        case measure => simp [intOf]; omega
      · have hlt2 : k = l.length ∨ k = 120 := by omega
        have HAL := hid (HIk.out.alike (by omega) HMK.out)
        have HBW := hid (HB2.out.trans (HIk.out.below.mono HB2.out.size))
        clear hgo HIk
        rcases hlt2 with rfl | rfl
        all_goals
          go_wp2_with (first
            | (go_at_call 15; refine HAL.out.mono ?_; rintro e w6 ⟨rfl, hb6⟩)
            | (go_at_call 12; refine (HAW.out w6 (HBW.out.trans (hb6.mono HBW.out.size))).mono ?_; rintro e w7 ⟨hb7, rfl⟩))
          all_goals
            have hb67 := HBW.out.trans (hb6.mono HBW.out.size)
            have HB7 := hid (hb67.trans (hb7.mono hb67.size))
            clear hb6 hb7 hb67
            go_ret
            exact ⟨rfl, HB7.out⟩
  · have HN := hid (HNew_any most top w hm ht)
    have HX := hid (fun W => RfNew_any most top W ht)
    simp only [if_neg h] at HN HX
    clear hm ht h hl hll
    go_enter Try.func3, Try.ntmps3
    go_wp2_with fail
    refine HN.out.mono ?_
    rintro e w1 ⟨hb1, rfl⟩
    have HB1 := hid hb1
    clear hb1
    go_wp2_with fail
    refine (HX.out w1).mono ?_
    rintro e w2 ⟨hb2, rfl⟩
    have HB2 := hid (HB1.out.trans (hb2.mono HB1.out.size))
    clear hb2
    go_wp2_with (go_at_call 12; refine (HAW.out w2 HB2.out).mono ?_; rintro e w3 ⟨hb3, rfl⟩)
    have HB3 := hid (HB2.out.trans (hb3.mono HB2.out.size))
    clear hb3
    go_ret
    exact ⟨rfl, HB3.out⟩
end Go.Proofs.Ytmkajdfajcodjaa
