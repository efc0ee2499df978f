/-
  The laws of layer 8: what PacketDecodes comes to.
-/
import Derived.Test.YtceeipejhmnkfaaPpW
import Derived.Test.YtceeipejhmnkfaaPkH
import Derived.Test.YtceeipejhmnkfaaLent
namespace Go.Proofs.Ytceeipejhmnkfaa
open Go Go.ChangeShapes Go.WideShapes Go.ChangeAt Go.RowKit

set_option maxRecDepth 100000 in
set_option maxHeartbeats 4000000 in
theorem PacketDecodes_any (w : World) (ad : Option Addr) (n cap : Nat) (b : List Int) (hb : Bs w w.heap.size ad b) (hn : n = b.length) (hby : Byt b) (hc : n ≤ cap) (hl : n ≤ 140737488351232) :
    Calls Try.prog 4 #[.slice ad n cap] w fun e w' => e = .returned (.bool true) ∧ Below w.heap.size w w' := by
  have HLN := hid (Lent_any w ad cap n b hb hn hl)
  have HAW := hid (fun W => pawake_any W)
  have HBS := hid hb
  have HN := hid hn
  have HBY := hid hby
  have HX := hid (dec_ok hby)
  have HL1 := hid (show (decP b).1.rs.length ≤ 4611686018427387904 by
    unfold decP
    split
    · decide
    · split
      · rename_i h; simp only [rawP]; split <;> simp
      · decide)
  obtain ⟨x, hx⟩ : ∃ x, x = (decP b).1 := ⟨_, rfl⟩
  obtain ⟨y, hy⟩ : ∃ y, y = (decP b).2 := ⟨_, rfl⟩
  rw [← hx] at HX HL1
  have HXE := hid hx
  have HYE := hid hy
  have H16 := hid HX.out.ip.len
  clear hb hn hby hx hy
  go_enter Try.func4, Try.ntmps4
  go_wp2_with fail
  refine HLN.out.mono ?_
  rintro e w1 ⟨g, rfl, hown, hb1⟩
  have hin : Bs w1 w1.heap.size (some ⟨g, 0, none⟩) (b ++ slack) := own_bs hown
  have hin2 : Bs w1 w1.heap.size (some ⟨g, 0, none⟩) b := by
    have := hin.take b.length
    rw [List.take_left' rfl] at this; exact this
  have HIN := hid hin
  have HB1 := hid hb1
  have HD := hid (pkDecode_any w1 (some ⟨g, 0, none⟩) (n + 4) n b hin2 HN.out HBY.out (fun h => by cases h) hl)
  unfold PDecP at HD
  rw [← HXE.out, ← HYE.out] at HD
  clear hown hin hin2 hb1 HLN
  go_wp2_with fail
  refine HD.out.mono ?_
  rintro e w2 ⟨a1, c1, rfl, hro1, hcl1, hb2⟩
  have HIN2 := hid ((HIN.out.below hb2).mono hb2.size)
  have HB2 := hid (HB1.out.trans (hb2.mono HB1.out.size))
  obtain ⟨w3, hw3⟩ : ∃ w3, w3 = (w2.alloc (.cells (pkA pkZ none 0) 28)).setRow w2.heap.size (pkA x a1 c1) := ⟨_, rfl⟩
  have HN2 := hid (show InP (w2.alloc (.cells (pkA pkZ none 0) 28)) w2.heap.size pkZ none 0 from heap_alloc_new _ _)
  have ho3 : InP w3 w2.heap.size x a1 c1 := by rw [hw3]; exact setRow_heap _ _ _ _ _ _ HN2.out
  have hb3 : Below w2.heap.size w2 w3 := by rw [hw3]; exact below_setRow ((Below.refl _ _).alloc (Nat.le_refl _) _) _ _ (Nat.le_refl _)
  have HW3 := hid hw3
  have HO3 := hid ho3
  have HR3 := hid (hro1.on hb3)
  have HCL1 := hid hcl1
  have HIN3 := hid ((HIN2.out.below hb3).mono hb3.size)
  have HB3 := hid (HB2.out.trans (hb3.mono HB2.out.size))
  have HZ1 := hid (szPk H16.out a1 c1)
  have HZ2 := hid (szZk H16.out a1 c1)
  clear hb2 hw3 ho3 hb3 HD HB1 HIN hro1 hcl1
  go_upto_region 3 with (first | ((with_reducible refine at_op ⟨none, .store 28 (.tmp 4) (.tmp 13), _, _, _, _⟩ ?_); refine wpList_store_row rfl 28 _ _ rfl w2.heap.size (pkA x a1 c1) rfl rfl 28 (pkA pkZ none 0) HN2.out HZ1.out HZ2.out (pkA_one _ _ _) ?_))
  change Code.wp _ _ _ _ ((w2.alloc (.cells (pkA pkZ none 0) 28)).setRow w2.heap.size (pkA x a1 c1))
  rw [← HW3.out]
  obtain ⟨X, hX⟩ : ∃ X, X = w2.heap.size := ⟨_, rfl⟩
  rw [← hX] at HO3 ⊢
  have HRD := hid (refPkDecode_any w3 ad cap n b ((HBS.out.below HB3.out).mono HB3.out.size) HN.out HBY.out hc hl)
  unfold DecP at HRD
  rw [← HXE.out, ← HYE.out] at HRD
  clear HW3 HN2 HB2 HIN2 hX
  go_wp2_with fail
  refine HRD.out.mono ?_
  rintro e w4 ⟨a2, c2, rfl, hro2, hcl2, hb4⟩
  have HO4 := hid (HO3.out.below hb4)
  have HR4 := hid (HR3.out.on hb4)
  have HIN4 := hid ((HIN3.out.below hb4).mono hb4.size)
  have HB4 := hid (HB3.out.trans (hb4.mono HB3.out.size))
  have HN4 := hid (show InP (w4.alloc (.cells (pkA pkZ none 0) 28)) w4.heap.size pkZ none 0 from heap_alloc_new _ _)
  obtain ⟨w5, hw5⟩ : ∃ w5, w5 = (w4.alloc (.cells (pkA pkZ none 0) 28)).setRow w4.heap.size (pkA x a2 c2) := ⟨_, rfl⟩
  have ho5 : InP w5 w4.heap.size x a2 c2 := by rw [hw5]; exact setRow_heap _ _ _ _ _ _ HN4.out
  have hb5 : Below w4.heap.size w4 w5 := by rw [hw5]; exact below_setRow ((Below.refl _ _).alloc (Nat.le_refl _) _) _ _ (Nat.le_refl _)
  have HW5 := hid hw5
  have HP5 := hid ho5
  have HO5 := hid (HO4.out.below hb5)
  have HR5 := hid (HR4.out.on hb5)
  have HS5 := hid (hro2.on hb5)
  have HCL2 := hid hcl2
  have HIN5 := hid ((HIN4.out.below hb5).mono hb5.size)
  have HB5 := hid (HB4.out.trans (hb5.mono HB4.out.size))
  have HZ3 := hid (szPk H16.out a2 c2)
  have HZ4 := hid (szZk H16.out a2 c2)
  clear hb4 hw5 ho5 hb5 HRD HB3 HIN3 HO3 HR3 HO4 HR4 hro2 hcl2
  go_upto_region 4 with (first | ((with_reducible refine at_op ⟨none, .store 28 (.tmp 6) (.tmp 18), _, _, _, _⟩ ?_); refine wpList_store_row rfl 28 _ _ rfl w4.heap.size (pkA x a2 c2) rfl rfl 28 (pkA pkZ none 0) HN4.out HZ3.out HZ4.out (pkA_one _ _ _) ?_))
  change Code.wp _ _ _ _ ((w4.alloc (.cells (pkA pkZ none 0) 28)).setRow w4.heap.size (pkA x a2 c2))
  rw [← HW5.out]
  have HSA := hid (pkSame_any x x HX.out HX.out a1 a2 c1 c2 w5 HR5.out HS5.out ⟨HL1.out, HL1.out, HCL1.out.1, HCL2.out.1, HCL1.out.2, HCL2.out.2⟩)
  rw [eqP_self] at HSA
  clear HW5 HN4 HB4 HIN4 HR5 HS5
  go_wp2_with (first
    | ((with_reducible refine at_op ⟨some 20, _, _, _, _, _⟩ ?_); refine wpList_runW rfl (.agg (pkA x a1 c1)) (load_p rfl rfl HO5.out H16.out) ?_)
    | ((with_reducible refine at_op ⟨some 21, _, _, _, _, _⟩ ?_); refine wpList_runW rfl (.agg (pkA x a2 c2)) (load_p rfl rfl HP5.out H16.out) ?_)
    | fail)
  refine HSA.out.mono ?_
  rintro e w6 ⟨rfl, hb6⟩
  have HB6 := hid (HB5.out.trans (hb6.mono HB5.out.size))
  have HK := hid (Kept_any w6 g 0 (n + 4) cap n ad b b ((HIN5.out.below hb6).mono hb6.size) ((HBS.out.below HB6.out).mono HB6.out.size) HN.out HN.out (by omega) hl)
  rw [show (b == b) = true by simp] at HK
  clear hb6 HB5 HIN5 HO5 HP5 HSA
  unfold codeP
  cases y
  all_goals
    clear HYE
    go_wp2_with fail
    refine HK.out.mono ?_
    rintro e w7 ⟨rfl, hb7⟩
    have HB7 := hid (HB6.out.trans (hb7.mono HB6.out.size))
    clear hb7 HB6 HK
    go_wp2_with fail
    refine (HAW.out _).mono ?_
    rintro e w8 ⟨rfl, hb8⟩
    have HB8 := hid (HB7.out.trans (hb8.mono HB7.out.size))
    clear hb8 HB7 HAW
    go_wp2
    go_ret
    exact ⟨rfl, HB8.out⟩
end Go.Proofs.Ytceeipejhmnkfaa
