/-
  The laws of layer 12: the document's example.
-/
import Derived.Test.YtmampaglemleoabWkF
namespace Go.Proofs.Ytmampaglemleoab
open Go Go.ChangeShapes Go.WideShapes Go.ChangeAt Go.RowKit Go.Maps

theorem exS_gt {S : Nat → Prop} {B : Nat} {w w' : World} (h : ∀ b, S b → B ≤ b) (hB : B ≤ w.heap.size) : ∀ b, exS S w w' b → B ≤ b := fun b hb => by
  rcases hb with hb | hb
  · exact h b hb
  · omega
theorem wput_new {i g : Nat} {A' : Ar} (hp : Put (new 4 1) 0 i g A') : i = 0 ∧ g = 1 ∧ A' = ⟨4, 1, [⟨0, 1, true⟩], []⟩ := by
  cases hp with
  | again F i s hF hs => simp [new] at hs
  | fresh hF hl => simp [new]
theorem wput_next {i g : Nat} {A' : Ar} (hp : Put ⟨4, 1, [⟨0, 1, true⟩], []⟩ 0 i g A') : i = 1 ∧ g = 1 := by
  cases hp with
  | again F i s hF hs => simp at hF
  | fresh hF hl => simp
set_option maxRecDepth 100000 in
set_option maxHeartbeats 4000000 in
theorem wawake (w : World) : Calls Try.prog 10 #[] w fun e w' => e = .returned (.bool true) ∧ Below w.heap.size w w' := by
  have HN := hid (RpW.new 4 w (by omega))
  go_enter Try.func10, Try.ntmps10
  go_wp2_with fail
  refine HN.out.mono ?_
  rintro e w1 ⟨hb1, p, S, rfl, hS, hR⟩
  obtain ⟨pb, rfl⟩ := hR.ptr
  have hB1 := HN
  have HS1 := hid hS
  have H1 := hid hb1
  have HO := hid (hR.of (t := 5) (by unfold U64; omega))
  clear hb1 hS hR HN hB1
  go_wp2_with fail
  refine HO.out.mono ?_
  rintro e w2 ⟨hf, s2, a, er, rfl, hof, hR2⟩
  have hofx : er = 0 ∧ a = hand 0 1 ∧ s2 = ⟨⟨4, 1, [⟨0, 1, true⟩], []⟩, [⟨hand 0 1, 5, false, 1⟩]⟩ := by
    cases hof with
    | up b hl hn => simp [lv] at hl
    | top b hl hn => simp [lv] at hl
    | full hl hF => exact absurd hF.2 (by simp [new])
    | new hl hp =>
      obtain ⟨rfl, rfl, rfl⟩ := wput_new hp
      exact ⟨rfl, rfl, rfl⟩
  obtain ⟨rfl, rfl, rfl⟩ := hofx
  have ha : hand 0 1 = 4294967297 := rfl
  rw [ha] at hR2 ⊢
  have H2 := hid (H1.out.trans (hf.below H1.out.size HS1.out))
  have HS2 := hid (exS_gt (w' := w2) HS1.out H1.out.size)
  have HO2 := hid (hR2.of (t := 5) (by unfold U64; omega))
  clear hf hof hR2 HO H1 HS1 ha
  go_wp2_with fail
  refine HO2.out.mono ?_
  rintro e w3 ⟨hf, s3, a, er, rfl, hof, hR3⟩
  have hofx : er = 0 ∧ a = 4294967297 ∧ s3 = ⟨⟨4, 1, [⟨0, 1, true⟩], []⟩, [⟨4294967297, 5, false, 2⟩]⟩ := by
    cases hof with
    | up b hl hn => simp [lv] at hl; subst hl; exact ⟨rfl, rfl, rfl⟩
    | top b hl hn => simp [lv] at hl; subst hl; simp at hn
    | full hl hF => simp [lv] at hl
    | new hl hp => simp [lv] at hl
  obtain ⟨rfl, rfl, rfl⟩ := hofx
  have H3 := hid (H2.out.trans (hf.below H2.out.size HS2.out))
  have HS3 := hid (exS_gt (w' := w3) HS2.out H2.out.size)
  have HD := hid (hR3.die (t := 5) (by unfold U64; omega))
  clear hf hof hR3 HO2 H2 HS2
  go_wp2_with fail
  refine HD.out.mono ?_
  rintro e w4 ⟨rfl, hf, hR4⟩
  have e1 : (lv (Ws.mk ⟨4, 1, [⟨0, 1, true⟩], []⟩ [⟨4294967297, 5, false, 2⟩]).L 5).isSome = true := rfl
  have e2 : dieL ([⟨4294967297, 5, false, 2⟩] : WL) 5 = [⟨4294967297, 5, true, 2⟩] := rfl
  rw [e2] at hR4
  rw [e1]
  have H4 := hid (H3.out.trans (hf.below H3.out.size HS3.out))
  have HS4 := hid (exS_gt (w' := w4) HS3.out H3.out.size)
  have HL := hid (hR4.lock (x := 4294967297) (by unfold U64; omega))
  have HR4 := hid hR4
  clear hf hR4 HD H3 HS3 e1 e2
  go_wp2_with fail
  refine HL.out.mono ?_
  rintro e w5 ⟨rfl, hf⟩
  have e1 : lockR (Ws.mk ⟨4, 1, [⟨0, 1, true⟩], []⟩ [⟨4294967297, 5, true, 2⟩]).L 4294967297 = (0, 10) := rfl
  rw [e1]
  simp only
  have H5 := hid (H4.out.trans (hf.below (B := w.heap.size) H4.out.size (fun _ e => e.elim)))
  have hR5 := HR4.out.no hf
  have HSS := HS4.out
  have HO5 := hid (hR5.of (t := 5) (by unfold U64; omega))
  have HS5 := hid HSS
  clear hf hR5 HR4 HL H4 HS4 e1 HSS
  go_wp2_with fail
  refine HO5.out.mono ?_
  rintro e w6 ⟨hf, s6, a, er, rfl, hof, hR6⟩
  have hofx : er = 0 ∧ a = hand 1 1 := by
    cases hof with
    | up b hl hn => simp [lv] at hl
    | top b hl hn => simp [lv] at hl
    | full hl hF => exact absurd hF.2 (by simp)
    | new hl hp =>
      obtain ⟨rfl, rfl⟩ := wput_next hp
      exact ⟨rfl, rfl⟩
  obtain ⟨rfl, rfl⟩ := hofx
  have ha : hand 1 1 = 4294967298 := rfl
  rw [ha]
  have H6 := hid (H5.out.trans (hf.below H5.out.size HS5.out))
  clear hf hof hR6 HO5 H5 HS5 ha
  go_wp2
  go_ret
  exact ⟨rfl, H6.out⟩
end Go.Proofs.Ytmampaglemleoab
