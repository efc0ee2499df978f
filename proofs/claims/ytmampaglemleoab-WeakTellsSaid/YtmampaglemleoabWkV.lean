/-
  WeakPlays' walk.
-/
import Derived.Test.YtmampaglemleoabWkU
namespace Go.Proofs.Ytmampaglemleoab
open Go Go.ChangeShapes Go.WideShapes Go.ChangeAt Go.RowKit

set_option maxRecDepth 100000 in
set_option maxHeartbeats 4000000 in
theorem WeakPlays_any (w : World) (most : Int) (ad : Option Addr) (c : Nat) (l : List WAct) (_ : Nm most) (hl : RwW w w.heap.size ad l) (hll : l.length ≤ 9223372036854775807) :
    Calls Try.prog 3 #[.int .i64 most, .slice ad l.length c] w fun e w' => e = .returned (.bool true) ∧ Below w.heap.size w w' := by
  by_cases hm : 1 ≤ most ∧ most ≤ 65536
  · have HN := hid (RpW.new most w hm)
    have HX := hid (fun W => RfT.new most W hm)
    have HL := hid hl
    clear hl hm
    go_enter Try.func3, Try.ntmps3
    go_wp2_with fail
    refine HN.out.mono ?_
    rintro e w1 ⟨hb1, p, S1, rfl, hS1, hR1⟩
    obtain ⟨pt, rfl⟩ := hR1.ptr
    go_wp2_with fail
    refine (HX.out w1).mono ?_
    rintro e w2 ⟨hb2, q, S2, rfl, hS2, hR2⟩
    obtain ⟨px, rfl⟩ := hR2.ptr
    have H1 := hid (hR1.no (Fr.of_below hb2))
    have HB1 := hid (hb1.trans (hb2.mono hb1.size))
    have HS1 := hid hS1
    clear hb1 hb2 hS1 hR1 hS2 hR2 HN
    go_wp2_with fail
    refine (HX.out w2).mono ?_
    rintro e w3 ⟨hb3, q, S3, rfl, hS3, hR3⟩
    obtain ⟨px2, rfl⟩ := hR3.ptr
    obtain ⟨w4, hw4⟩ : ∃ w4, w4 = w3.alloc (.cells #[.pointer (some ⟨pt, 0, none⟩), .pointer (some ⟨px2, 0, none⟩), .slice none 0 0] 33) := ⟨_, rfl⟩
    have HI := hid (WkPI.begin HB1.out HS1.out H1.out hb3 hS3 hR3 hw4)
    have HW4 := hid hw4
    obtain ⟨pp, hpp⟩ : ∃ pp, pp = w3.heap.size := ⟨_, rfl⟩
    rw [← hpp] at HI
    have HPP := hid hpp
    clear hb3 hS3 hR3 H1 HB1 HS1 HX hw4 hpp
    go_upto_region 5 with fail
    rw [← HW4.out, ← HPP.out]
    clear HW4 HPP
    go_wp2
    go_loopw [8] (fun i8 wr => ∃ (i : Nat), i ≤ l.length ∧ i ≤ 200 ∧ i8 = .int .i64 i ∧ RowKit.Hid (WkPI w pp (.pointer (some ⟨pt, 0, none⟩)) (.pointer (some ⟨px2, 0, none⟩)) i (new most.toNat 1).most wr)) (fun i8 _ => 200 - (intOf i8).toNat)
    case atStart => exact ⟨0, by omega, by omega, rfl, HI⟩
    case round =>
      obtain ⟨i, hil, hi200, rfl, HIi⟩ := hrel
      clear HI
      by_cases hgo : i < l.length ∧ i < 200
      · obtain ⟨hg1, hg2⟩ := hgo
        have hx : l[i]? = some (l[i]'hg1) := List.getElem?_eq_getElem hg1
        generalize l[i]'hg1 = x at hx
        obtain ⟨ab, ao, rfl, hab⟩ := HL.out.at_ (by omega)
        have HAT := hid ((HL.out.below HIi.out.below).rows ab ao rfl i x hx)
        have HOK := HL.out.ok x (List.mem_of_getElem? hx)
        have HDO := hid (HIi.out.do (by omega) HOK)
        clear hx HOK HIi
        go_wp2_with (first
          | ((with_reducible refine at_op ⟨some 45, _, _, _, _, _⟩ ?_); refine wpList_run rfl _ (load_wact rfl rfl HAT.out) ?_)
          | fail)
        refine HDO.out.mono ?_
        rintro e w5 ⟨rfl, h5⟩
        have H5 := hid h5
        clear h5 HDO HAT
        go_wp2
        go_roundw
        case rel => exact ⟨i + 1, by omega, by omega, by go_num, H5⟩
        case measure => simp [intOf]; omega
      · have HB := hid HIi.out.below
        have hlt2 : i = l.length ∨ i = 200 := by omega
        clear hgo HIi
        rcases hlt2 with rfl | rfl
        all_goals
          go_wp2_with (refine (wawake wr).mono ?_; rintro e w2 ⟨rfl, hb2⟩)
          all_goals
            go_ret
            exact ⟨rfl, HB.out.trans (hb2.mono HB.out.size)⟩
  · have HN := hid (RpW.new_not most w hm)
    have HX := hid (RfT.new_not most w hm)
    clear hl hm
    go_enter Try.func3, Try.ntmps3
    go_wp2_with (first
      | (go_at_call 8; refine HN.out.mono ?_; rintro e w1 ⟨rfl, rfl⟩)
      | (go_at_call 9; refine HX.out.mono ?_; rintro e w1 ⟨rfl, rfl⟩)
      | (go_at_call 10; refine (wawake _).mono ?_; rintro e w2 ⟨rfl, hb2⟩))
    go_ret
    exact ⟨rfl, hb2⟩
end Go.Proofs.Ytmampaglemleoab
