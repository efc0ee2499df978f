/-
  The laws of layer 7: what ObjrefEncodes comes to.
-/
import Derived.Test.YtpnjneifolffdaaObW
import Derived.Test.YtpnjneifolffdaaObS
namespace Go.Proofs.Ytpnjneifolffdaa
open Go Go.ChangeShapes Go.WideShapes Go.ChangeAt Go.RowKit

set_option maxRecDepth 100000 in
set_option maxHeartbeats 4000000 in
theorem ObjrefEncodes_any (x : Orf) (w : World) (hx : OrfOk x) : Calls Try.prog 3 #[.agg (orA x)] w fun e w' => e = .returned (.bool true) ∧ Below w.heap.size w w' := by
  have ho : InO (w.alloc (.cells (orA x) 27)) w.heap.size x := heap_alloc_new _ _
  have hB : Below w.heap.size w (w.alloc (.cells (orA x) 27)) := (Below.refl _ _).alloc (Nat.le_refl _) _
  have HO := hid ho
  have HB := hid hB
  have Hx := hid hx
  have HEN := hid (fun W => Encode_any x hx W)
  have HR := hid (fun W => Right_any x W)
  have HC := hid (fun W => Check_any x W)
  have HAW := hid (fun W => awake_any W)
  have HER : RowKit.Hid (errO x = if rightO x then 0 else 5) := rfl
  have HFL := hid (frmO_len hx)
  clear ho hB hx
  go_enter Try.func3, Try.ntmps3
  go_wp2_with (first | ((with_reducible refine at_op ⟨some 6, _, _, _, _, _⟩ ?_); refine wpList_runW rfl (.agg (orA x)) (load_o rfl rfl HO.out Hx.out) ?_) | fail)
  refine (HEN.out _).mono ?_
  rintro e w1 (⟨hr, ⟨g, rfl, hg, hgl⟩, hb1⟩ | ⟨hr, rfl, hb1⟩)
  · rw [hr] at HR HER
    have he : errO x = 0 := HER.out
    rw [he] at HC
    have HO1 := hid (HO.out.below hb1)
    have HB1 := hid (HB.out.trans (hb1.mono HB.out.size))
    have hbs : Bs w1 w1.heap.size (some ⟨g, 0, none⟩) (frmO x) := ⟨fun _ => ⟨_, _, rfl, lt_of_heap hg⟩, fun b o he => by cases he; exact AtL.row (cs := u8l (frmO x)) hg⟩
    have HBS := hid hbs
    clear hb1 hg hbs he HER HEN HO HB hgl
    go_wp2_with (first | ((with_reducible refine at_op ⟨some 10, _, _, _, _, _⟩ ?_); refine wpList_runW rfl (.agg (orA x)) (load_o rfl rfl HO1.out Hx.out) ?_) | fail)
    refine (HR.out _).mono ?_
    rintro e w2 ⟨rfl, hb2⟩
    have HO2 := hid (HO1.out.below hb2)
    have HB2 := hid (HB1.out.trans (hb2.mono HB1.out.size))
    have HBS2 := hid ((HBS.out.below hb2).mono hb2.size)
    clear hb2 HO1 HB1 HBS HR
    go_wp2_with (first | ((with_reducible refine at_op ⟨some 31, _, _, _, _, _⟩ ?_); refine wpList_runW rfl (.agg (orA x)) (load_o rfl rfl HO2.out Hx.out) ?_) | fail)
    refine (HC.out _).mono ?_
    rintro e w3 ⟨rfl, hb3⟩
    have HO3 := hid (HO2.out.below hb3)
    have HB3 := hid (HB2.out.trans (hb3.mono HB2.out.size))
    have HBS3 := hid ((HBS2.out.below hb3).mono hb3.size)
    clear hb3 HO2 HB2 HBS2 HC
    go_wp2_with (first | ((with_reducible refine at_op ⟨some 37, _, _, _, _, _⟩ ?_); refine wpList_runW rfl (.agg (orA x)) (load_o rfl rfl HO3.out Hx.out) ?_) | fail)
    refine (refEncode_any x Hx.out w3 none 0 0 [] (Bs.nil _ _ _) rfl (fun _ => ⟨rfl, rfl⟩) rfl (by omega)).mono ?_
    rintro e w4 ⟨v4, rfl, hown, hb4⟩
    rw [List.nil_append, HFL.out] at hown
    obtain ⟨a4, c4, rfl⟩ := own_form hown
    have HB4 := hid (HB3.out.trans (hb4.mono HB3.out.size))
    have HSB := hid (SameBytes_any w4 (some ⟨g, 0, none⟩) a4 64 c4 64 64 (frmO x) (frmO x) HFL.out.symm HFL.out.symm ((HBS3.out.below hb4).mono hb4.size) (own_bs hown) (by omega) (by omega))
    rw [show (frmO x == frmO x) = true by simp] at HSB
    clear hown hb4 HO3 HB3 HBS3
    go_wp2_with fail
    refine HSB.out.mono ?_
    rintro e w5 ⟨rfl, hb5⟩
    have HB5 := hid (HB4.out.trans (hb5.mono HB4.out.size))
    clear hb5 HB4 HSB
    go_wp2_with fail
    refine (HAW.out _).mono ?_
    rintro e w6 ⟨rfl, hb6⟩
    have HB6 := hid (HB5.out.trans (hb6.mono HB5.out.size))
    clear hb6 HB5 HAW
    go_wp2
    go_ret
    exact ⟨rfl, HB6.out⟩
  · rw [hr] at HR HER
    have he : errO x = 5 := HER.out
    rw [he] at HC
    have HO1 := hid (HO.out.below hb1)
    have HB1 := hid (HB.out.trans (hb1.mono HB.out.size))
    clear hb1 he HER HEN HO HB
    go_wp2_with (first | ((with_reducible refine at_op ⟨some 10, _, _, _, _, _⟩ ?_); refine wpList_runW rfl (.agg (orA x)) (load_o rfl rfl HO1.out Hx.out) ?_) | fail)
    refine (HR.out _).mono ?_
    rintro e w2 ⟨rfl, hb2⟩
    have HO2 := hid (HO1.out.below hb2)
    have HB2 := hid (HB1.out.trans (hb2.mono HB1.out.size))
    clear hb2 HO1 HB1 HR
    go_wp2_with (first | ((with_reducible refine at_op ⟨some 16, _, _, _, _, _⟩ ?_); refine wpList_runW rfl (.agg (orA x)) (load_o rfl rfl HO2.out Hx.out) ?_) | fail)
    refine (HC.out _).mono ?_
    rintro e w3 ⟨rfl, hb3⟩
    have HB3 := hid (HB2.out.trans (hb3.mono HB2.out.size))
    clear hb3 HO2 HB2 HC
    go_wp2_with fail
    refine (HAW.out _).mono ?_
    rintro e w6 ⟨rfl, hb6⟩
    have HB6 := hid (HB3.out.trans (hb6.mono HB3.out.size))
    clear hb6 HB3 HAW
    go_wp2
    go_ret
    exact ⟨rfl, HB6.out⟩
end Go.Proofs.Ytpnjneifolffdaa
