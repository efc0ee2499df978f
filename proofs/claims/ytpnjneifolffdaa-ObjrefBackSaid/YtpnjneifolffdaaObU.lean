/-
  The laws of layer 7: what ObjrefDecodes comes to.
-/
import Derived.Test.YtpnjneifolffdaaObW
import Derived.Test.YtpnjneifolffdaaObS
import Derived.Test.YtpnjneifolffdaaLent
namespace Go.Proofs.Ytpnjneifolffdaa
open Go Go.ChangeShapes Go.WideShapes Go.ChangeAt Go.RowKit

theorem decO_ok {b : List Int} (hb : Byt b) : OrfOk (decO b).1 := by
  unfold decO
  split
  · exact orZ_ok
  · rename_i h
    split
    · exact orZ_ok
    · split
      · exact rdO_ok hb (by omega)
      · exact orZ_ok
set_option maxRecDepth 100000 in
set_option maxHeartbeats 4000000 in
theorem ObjrefDecodes_any (w : World) (ad : Option Addr) (n cap : Nat) (b : List Int) (hb : Bs w w.heap.size ad b) (hn : n = b.length) (hby : Byt b) (hc : n ≤ cap) (hl : n ≤ 140737488351232) :
    Calls Try.prog 4 #[.slice ad n cap] w fun e w' => e = .returned (.bool true) ∧ Below w.heap.size w w' := by
  have HLN := hid (Lent_any w ad cap n b hb hn hl)
  have HAW := hid (fun W => awake_any W)
  have HBS := hid hb
  have HN := hid hn
  have HBY := hid hby
  have HX := hid (decO_ok hby)
  obtain ⟨x, hx⟩ : ∃ x, x = decO b := ⟨_, rfl⟩
  rw [← hx] at HX
  have HXE := hid hx
  have hq := eqObj x.1 x.1 HX.out HX.out
  rw [eqO_self] at hq
  have hg := guardO
  have HIX := hid (infoO HX.out)
  have HSO := hid (show (orA orZ).size = (orA x.1).size by rw [orA_size HX.out, orA_size orZ_ok])
  clear hb hn hby hx
  go_enter Try.func4, Try.ntmps4
  go_wp2_with fail
  refine HLN.out.mono ?_
  rintro e w1 ⟨g, rfl, hown, hb1⟩
  have hin : Bs w1 w1.heap.size (some ⟨g, 0, none⟩) (b ++ slack) := own_bs hown
  have hin2 : Bs w1 w1.heap.size (some ⟨g, 0, none⟩) b := by
    have := hin.take b.length
    rw [List.take_left' rfl] at this; exact this
  have HIN := hid hin
  have HB1 := hid hb1
  have HD := hid (Decode_any w1 (some ⟨g, 0, none⟩) (n + 4) n b hin2 HN.out HBY.out (by omega))
  clear hown hin hin2 hb1 HLN
  go_wp2_with fail
  refine HD.out.mono ?_
  rintro e w2 ⟨rfl, hb2⟩
  rw [← HXE.out]
  have HIN2 := hid ((HIN.out.below hb2).mono hb2.size)
  have HB2 := hid (HB1.out.trans (hb2.mono HB1.out.size))
  have HN2 := hid (heap_alloc_new w2 (.cells (orA orZ) 27))
  obtain ⟨w3, hw3⟩ : ∃ w3, w3 = (w2.alloc (.cells (orA orZ) 27)).setRow w2.heap.size (orA x.1) := ⟨_, rfl⟩
  have ho3 : InO w3 w2.heap.size x.1 := by rw [hw3]; exact setRow_heap _ _ _ _ _ _ HN2.out
  have hb3 : Below w2.heap.size w2 w3 := by rw [hw3]; exact below_setRow ((Below.refl _ _).alloc (Nat.le_refl _) _) _ _ (Nat.le_refl _)
  have HW3 := hid hw3
  have HO3 := hid ho3
  have HIN3 := hid ((HIN2.out.below hb3).mono hb3.size)
  have HB3 := hid (HB2.out.trans (hb3.mono HB2.out.size))
  clear hb2 hw3 ho3 hb3 HD HB1 HIN
  go_upto_region 3 with (first | ((with_reducible refine at_op ⟨none, .store 27 (.tmp 4) (.tmp 13), _, _, _, _⟩ ?_); refine wpList_store_row rfl 27 _ _ rfl w2.heap.size (orA x.1) rfl rfl 27 (orA orZ) HN2.out HIX.out HSO.out (orA_one _) ?_))
  change Code.wp _ _ _ _ ((w2.alloc (.cells (orA orZ) 27)).setRow w2.heap.size (orA x.1))
  rw [← HW3.out]
  obtain ⟨X, hX⟩ : ∃ X, X = w2.heap.size := ⟨_, rfl⟩
  rw [← hX] at HO3 ⊢
  have HRD := hid (refDecode_any w3 ad cap n b ((HBS.out.below HB3.out).mono HB3.out.size) HN.out HBY.out hc hl)
  clear HW3 HN2 HB2 HIN2 hX
  go_wp2_with fail
  refine HRD.out.mono ?_
  rintro e w4 ⟨rfl, hb4⟩
  rw [← HXE.out]
  have HO4 := hid (HO3.out.below hb4)
  have HIN4 := hid ((HIN3.out.below hb4).mono hb4.size)
  have HB4 := hid (HB3.out.trans (hb4.mono HB3.out.size))
  have HN4 := hid (heap_alloc_new w4 (.cells (orA orZ) 27))
  obtain ⟨w5, hw5⟩ : ∃ w5, w5 = (w4.alloc (.cells (orA orZ) 27)).setRow w4.heap.size (orA x.1) := ⟨_, rfl⟩
  have ho5 : InO w5 w4.heap.size x.1 := by rw [hw5]; exact setRow_heap _ _ _ _ _ _ HN4.out
  have hb5 : Below w4.heap.size w4 w5 := by rw [hw5]; exact below_setRow ((Below.refl _ _).alloc (Nat.le_refl _) _) _ _ (Nat.le_refl _)
  have HW5 := hid hw5
  have HP5 := hid ho5
  have HO5 := hid (HO4.out.below hb5)
  have HIN5 := hid ((HIN4.out.below hb5).mono hb5.size)
  have HB5 := hid (HB4.out.trans (hb5.mono HB4.out.size))
  clear hb4 hw5 ho5 hb5 HRD HB3 HIN3 HO3
  go_upto_region 4 with (first | ((with_reducible refine at_op ⟨none, .store 27 (.tmp 6) (.tmp 18), _, _, _, _⟩ ?_); refine wpList_store_row rfl 27 _ _ rfl w4.heap.size (orA x.1) rfl rfl 27 (orA orZ) HN4.out HIX.out HSO.out (orA_one _) ?_))
  change Code.wp _ _ _ _ ((w4.alloc (.cells (orA orZ) 27)).setRow w4.heap.size (orA x.1))
  rw [← HW5.out]
  have HK := hid (Kept_any w5 g 0 (n + 4) cap n ad b b HIN5.out ((HBS.out.below HB5.out).mono HB5.out.size) HN.out HN.out (by omega) hl)
  rw [show (b == b) = true by simp] at HK
  clear HW5 HN4 HB4 HIN4 HO4
  go_wp2_with (first
    | ((with_reducible refine at_op ⟨some 20, _, _, _, _, _⟩ ?_); refine wpList_runW rfl (.agg (orA x.1)) (load_o rfl rfl HO5.out HX.out) ?_)
    | ((with_reducible refine at_op ⟨some 21, _, _, _, _, _⟩ ?_); refine wpList_runW rfl (.agg (orA x.1)) (load_o rfl rfl HP5.out HX.out) ?_)
    | fail)
  refine HK.out.mono ?_
  rintro e w6 ⟨rfl, hb6⟩
  have HB6 := hid (HB5.out.trans (hb6.mono HB5.out.size))
  clear hb6 HB5 HK
  go_wp2_with fail
  refine (HAW.out _).mono ?_
  rintro e w7 ⟨rfl, hb7⟩
  have HB7 := hid (HB6.out.trans (hb7.mono HB6.out.size))
  clear hb7 HB6 HAW
  go_wp2
  go_ret
  exact ⟨rfl, HB7.out⟩
end Go.Proofs.Ytpnjneifolffdaa
