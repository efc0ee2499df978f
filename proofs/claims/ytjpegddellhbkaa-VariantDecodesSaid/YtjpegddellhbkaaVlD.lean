/-
  The walk through VariantDecodes.
-/
import Derived.Test.YtjpegddellhbkaaVrG
import Derived.Test.YtjpegddellhbkaaVlC
import Derived.Test.YtjpegddellhbkaaLent
namespace Go.Proofs.Ytjpegddellhbkaa
open Go Go.ChangeShapes Go.WideShapes Go.ChangeAt Go.RowKit

set_option maxHeartbeats 4000000 in
set_option maxRecDepth 100000 in
theorem VariantDecodes_any (w : World) (ad : Option Addr) (L cap : Nat) (xs : List Int) (hbs : Bs w w.heap.size ad xs) (hL : L = xs.length) (hby : Byt xs) (hc : L ≤ cap) (hc2 : cap ≤ 9223372036854775807) (hl : L ≤ 140737488351232) :
    Calls Try.prog 5 #[.slice ad L cap] w fun e w' => e = .returned (.bool true) ∧ Below w.heap.size w w' := by
  have HLT := hid (Lent_any w ad cap L xs hbs hL hl)
  have HPD := hid (fun W g (hW : Bs W W.heap.size (some ⟨g, 0, none⟩) xs) => PDecode_any W (some ⟨g, 0, none⟩) (L + 4) L xs hL hW (fun h => by cases h) hby (by omega))
  have HRD := hid (fun W (hW : Below w.heap.size w W) => RDecode_any W ad cap L xs hL ((hbs.below hW).mono hW.size) hby (by omega) hc hc2)
  have HKP := hid (fun W g (hW : Below w.heap.size w W) (hg : Bs W W.heap.size (some ⟨g, 0, none⟩) (xs ++ slack)) => Kept_any W g 0 (L + 4) cap L ad xs xs hg ((hbs.below hW).mono hW.size) hL hL (Nat.le_refl _) hl)
  have HL := hid hL
  generalize decV xs = q at *
  obtain ⟨x, f⟩ := q
  unfold PDecPost at HPD HRD
  simp only at HPD HRD
  clear hbs hL hby hc hc2
  go_enter Try.func5, Try.ntmps5
  go_wp2_with fail
  refine HLT.out.mono ?_
  rintro e w1 ⟨g, rfl, hrow, hb1⟩
  have hbs4 : Bs w1 w1.heap.size (some ⟨g, 0, none⟩) (xs ++ slack) := own_bs hrow
  have hbs1 : Bs w1 w1.heap.size (some ⟨g, 0, none⟩) xs := by
    have := hbs4.take xs.length
    rw [List.take_left' rfl] at this; exact this
  have HB1 := hid hb1
  have HBS4 := hid hbs4
  have HPD1 := hid (HPD.out w1 g hbs1)
  clear hrow hb1 hbs4 hbs1 HPD HLT
  go_wp2_with fail
  refine HPD1.out.mono ?_
  rintro e w2 ⟨ck, cn, cb, ca, cl, cc, rfl, hx2, hb2⟩
  have hbb2 := HB1.out.trans (hb2.mono HB1.out.size)
  have hx3 : VIn (w2.alloc (.cells #[.int .i64 ck, .int .i64 cn, .string cb, .slice ca cl cc] 24)) (w2.alloc (.cells #[.int .i64 ck, .int .i64 cn, .string cb, .slice ca cl cc] 24)).heap.size x [.int .i64 ck, .int .i64 cn, .string cb, .slice ca cl cc] := VIn.on hx2.in' ((Below.refl _ w2).alloc (Nat.le_refl _) _)
  have hb3 := hbb2.alloc hbb2.size (.cells #[.int .i64 ck, .int .i64 cn, .string cb, .slice ca cl cc] 24)
  have hh3 := heap_alloc_new w2 (.cells #[.int .i64 ck, .int .i64 cn, .string cb, .slice ca cl cc] 24)
  have hg3 : Bs (w2.alloc (.cells #[.int .i64 ck, .int .i64 cn, .string cb, .slice ca cl cc] 24)) (w2.alloc (.cells #[.int .i64 ck, .int .i64 cn, .string cb, .slice ca cl cc] 24)).heap.size (some ⟨g, 0, none⟩) (xs ++ slack) := by
    have hB : Below w1.heap.size w1 (w2.alloc (.cells #[.int .i64 ck, .int .i64 cn, .string cb, .slice ca cl cc] 24)) := hb2.alloc hb2.size _
    exact (HBS4.out.below hB).mono hB.size
  obtain ⟨w3, hw3⟩ : ∃ w3, w3 = w2.alloc (.cells #[.int .i64 ck, .int .i64 cn, .string cb, .slice ca cl cc] 24) := ⟨_, rfl⟩
  obtain ⟨p3, hp3⟩ : ∃ p3, p3 = w2.heap.size := ⟨_, rfl⟩
  rw [← hw3] at hx3 hb3 hh3 hg3
  rw [← hp3] at hh3
  have HX3 := hid hx3
  have HB3 := hid hb3
  have HH3 := hid hh3
  have HG3 := hid hg3
  have HW3 := hid hw3
  have HP3 := hid hp3
  clear hx2 hb2 hbb2 hx3 hb3 hh3 hg3 hw3 hp3 HPD1 HBS4 HB1
  rename_i KA hA KB hB
  have HA := hid hA
  clear hA
  go_wp2
  rw [← HW3.out, ← HP3.out]
  refine HA.out _ _ ?_
  clear HA HW3 HP3
  go_wp2_with fail
  refine (HRD.out w3 HB3.out).mono ?_
  rintro e w4 ⟨dk, dn, db, da, dl, dc, rfl, hy4, hb4⟩
  have hb34 : Below w3.heap.size w3 (w4.alloc (.cells #[.int .i64 dk, .int .i64 dn, .string db, .slice da dl dc] 24)) := hb4.alloc hb4.size _
  have hy5 : VIn (w4.alloc (.cells #[.int .i64 dk, .int .i64 dn, .string db, .slice da dl dc] 24)) (w4.alloc (.cells #[.int .i64 dk, .int .i64 dn, .string db, .slice da dl dc] 24)).heap.size x [.int .i64 dk, .int .i64 dn, .string db, .slice da dl dc] := VIn.on hy4.in' ((Below.refl _ w4).alloc (Nat.le_refl _) _)
  have hx5 := VIn.on HX3.out hb34
  have hb5 := HB3.out.trans (hb34.mono HB3.out.size)
  have hh5 := heap_alloc_new w4 (.cells #[.int .i64 dk, .int .i64 dn, .string db, .slice da dl dc] 24)
  have hh3 := (hb34.block p3 (lt_of_heap HH3.out)).trans HH3.out
  have hg5 := (HG3.out.below hb34).mono hb34.size
  obtain ⟨w5, hw5⟩ : ∃ w5, w5 = w4.alloc (.cells #[.int .i64 dk, .int .i64 dn, .string db, .slice da dl dc] 24) := ⟨_, rfl⟩
  obtain ⟨p5, hp5⟩ : ∃ p5, p5 = w4.heap.size := ⟨_, rfl⟩
  rw [← hw5] at hy5 hx5 hb5 hh5 hh3 hg5
  rw [← hp5] at hh5
  have HS := hid (Same_any x x _ _ w5 hx5 hy5)
  have HB5 := hid hb5
  have HH5 := hid hh5
  have HH3 := hid hh3
  have HG5 := hid hg5
  have HW5 := hid hw5
  have HP5 := hid hp5
  clear hy4 hb4 hb34 hy5 hx5 hb5 hh5 hh3 hg5 hw5 hp5 HG3 HX3 HRD
  rename_i KA hA KB hB
  have HA := hid hA
  clear hA
  go_wp2
  rw [← HW5.out, ← HP5.out]
  refine HA.out _ _ ?_
  clear HA HW5 HP5
  obtain ⟨c0, c1, c2, c3⟩ := box_cells HH5.out
  obtain ⟨d0, d1, d2, d3⟩ := box_cells HH3.out
  go_wp2_with fail
  refine HS.out.mono ?_
  rintro e w6 ⟨⟨r, rfl, hr⟩, hb6⟩
  obtain rfl : r = true := hr.2 rfl
  have HB6 := hid (HB5.out.trans (hb6.mono HB5.out.size))
  have HK := hid (HKP.out w6 g HB6.out ((HG5.out.below hb6).mono hb6.size))
  have hself : (xs == xs) = true := by simp
  rw [hself] at HK
  clear hb6 hr hself c0 c1 c2 c3 d0 d1 d2 d3 HS HKP HG5
  go_wp2_with fail
  refine HK.out.mono ?_
  rintro e w7 ⟨rfl, hb7⟩
  have HB7 := hid (HB6.out.trans (hb7.mono HB6.out.size))
  clear hb7 HK
  go_wp2_with fail
  refine (awake_any w7).mono ?_
  rintro e w8 ⟨rfl, hb8⟩
  have HB8 := hid (HB7.out.trans (hb8.mono HB7.out.size))
  clear hb8
  go_wp2
  go_ret
  exact ⟨rfl, HB8.out⟩
end Go.Proofs.Ytjpegddellhbkaa
