/- ClC ClF ClGr ClL in one -/
import Derived.Test.YtgfimkeopohjaaaDoorClA
import Derived.Test.YtgfimkeopohjaaaDoorFcKr
import Derived.Test.YtgfimkeopohjaaaDoorCdQ
import Derived.Test.YtgfimkeopohjaaaDoorMixD
namespace Go.Proofs.YtgfimkeopohjaaaDoor
open Go Go.ChangeShapes Go.WideShapes Go.ChangeAt Go.RowKit

/-- The first method that may not be run: why. -/
def mErr (s : Int) : List (List Ins) → Int
  | [] => 0
  | l :: r => if (heightP l s).2.2 = 0 then mErr s r else (heightP l s).2.2
theorem mErr_step {s : Int} {ms : List (List Ins)} {q : Nat} {l : List Ins} (h : ms[q]? = some l) : mErr s (ms.drop q) = if (heightP l s).2.2 = 0 then mErr s (ms.drop (q + 1)) else (heightP l s).2.2 := by
  obtain ⟨hlt, e⟩ := List.getElem?_eq_some_iff.1 h
  rw [List.drop_eq_getElem_cons hlt, e, mErr]
def chkC (c : Cls) : Int :=
  if checkL c.faces ≠ 0 then checkL c.faces
  else if c.slots < 0 ∨ 8 < c.slots then 1
  else if c.methods.length = 0 ∨ 8 < c.methods.length then 20
  else mErr c.slots c.methods
set_option maxRecDepth 100000 in
set_option maxHeartbeats 4000000 in
theorem RCheckClass_any (c : Cls) (vf vm : Value) (w : World) (h : ClC w w.heap.size c vf vm) (hf : c.faces.length ≤ 100000) :
    Calls Tryd.prog 13 #[.agg (clc c vf vm).toArray] w fun e w' => e = .returned (.int .i64 (chkC c)) ∧ Below w.heap.size w w' := by
  obtain ⟨w1, hw1⟩ : ∃ w1, w1 = w.alloc (.cells (clc c vf vm).toArray 38) := ⟨_, rfl⟩
  have hb1 : Below w.heap.size w w1 := by rw [hw1]; exact (Below.refl _ _).alloc (Nat.le_refl _) _
  have hc1 : InC w1 w.heap.size c vf vm := by rw [hw1]; exact heap_alloc_new _ _
  have h1 := h.on hb1
  obtain ⟨af, cf, rfl, hF, hFc, hFm⟩ := h1.f
  obtain ⟨am, cm, rfl, hM, hMc, hMm⟩ := h1.m
  have HCK := hid (RCheck_any w1 af c.faces.length cf c.faces hF rfl hf)
  have HI := hid h1.id
  have HC1 := hid hc1
  have HB1 := hid hb1
  have HM := hid hM
  have HW := hid hw1
  have c16 := hc1.cf h1.id
  clear hF hM h h1 hw1 hb1 hc1
  obtain ⟨nf, hnf⟩ : ∃ n, n = c.faces.length := ⟨_, rfl⟩
  obtain ⟨nm, hnm⟩ : ∃ n, n = c.methods.length := ⟨_, rfl⟩
  have HNM := hid hnm
  rw [← hnf] at HCK hFc c16 HC1 HW ⊢
  rw [← hnm] at hMc HC1 HW ⊢
  have HCH := hid (show chkC c = if checkL c.faces ≠ 0 then checkL c.faces else if c.slots < 0 ∨ 8 < c.slots then 1 else if nm = 0 ∨ 8 < nm then 20 else mErr c.slots (c.methods.drop 0) by rw [hnm]; rfl)
  clear hnf hnm hf
  obtain ⟨ck, hck⟩ : ∃ x, x = checkL c.faces := ⟨_, rfl⟩
  rw [← hck] at HCK HCH
  obtain ⟨res, hres⟩ : ∃ x, x = chkC c := ⟨_, rfl⟩
  rw [← hres] at HCH ⊢
  clear hck hres
  go_enter Tryd.func13, Tryd.ntmps13
  go_upto_region 1 with (fail)
  change Code.wp _ _ _ _ (w.alloc (.cells (clc c (.slice af nf cf) (.slice am nm cm)).toArray 38))
  rw [← HW.out]
  go_wp2_with fail
  refine HCK.out.mono ?_
  rintro e w2 ⟨rfl, hb2⟩
  have HC2 := hid (HC1.out.on hb2)
  have HM2 := hid (((HM.out.kept (fun b hb => hb2.block b hb))).mono hb2.size)
  have HB2 := hid (HB1.out.trans (hb2.mono HB1.out.size))
  have HZ := hid (show w.heap.size < w2.heap.size by have := hb2.size; have := (Array.getElem?_eq_some_iff.1 HC1.out).1; omega)
  have c17 := HC2.out.cs HI.out
  have c18 := HC2.out.cm HI.out
  clear hb2 c16 HC1 HM HB1 HW HCK
  by_cases h0 : ck = 0
  case neg =>
    have d0 : (ck != 0) = true := by simpa using h0
    rw [if_pos h0] at HCH
    clear h0
    go_wp2
    go_ret
    exact ⟨by rw [HCH.out]; rfl, HB2.out⟩
  have d0 : (ck != 0) = false := by simpa using h0
  rw [if_neg (by omega)] at HCH
  clear h0
  obtain ⟨s, hs⟩ : ∃ s, s = c.slots := ⟨_, rfl⟩
  rw [← hs] at HCH c17
  have HS := hid hs
  clear hs
  by_cases h1 : s < 0
  · have d1 : decide (s < 0) = true := by simpa using h1
    rw [if_pos (.inl h1)] at HCH
    clear h1
    go_wp2
    go_ret
    exact ⟨by rw [HCH.out]; rfl, HB2.out⟩
  have d1 : decide (s < 0) = false := by simpa using h1
  by_cases h2 : 8 < s
  · have d2 : decide (8 < s) = true := by simpa using h2
    rw [if_pos (.inr h2)] at HCH
    clear h1 h2
    go_wp2
    go_ret
    exact ⟨by rw [HCH.out]; rfl, HB2.out⟩
  have d2 : decide (8 < s) = false := by simpa using h2
  rw [if_neg (by omega)] at HCH
  clear h1 h2
  by_cases h3 : nm = 0
  · have d3 : ((nm : Int) == 0) = true := by simp; omega
    rw [if_pos (.inl h3)] at HCH
    clear h3
    go_wp2
    go_ret
    exact ⟨by rw [HCH.out]; rfl, HB2.out⟩
  have d3 : ((nm : Int) == 0) = false := by simp; omega
  by_cases h4 : 8 < nm
  · have d4 : decide (8 < (nm : Int)) = true := by simp; omega
    rw [if_pos (.inr h4)] at HCH
    clear h3 h4
    go_wp2
    go_ret
    exact ⟨by rw [HCH.out]; rfl, HB2.out⟩
  have d4 : decide (8 < (nm : Int)) = false := by simp; omega
  rw [if_neg (by omega)] at HCH
  have hn8 : nm ≤ 8 := by omega
  obtain ⟨b, o, rfl, _⟩ := HM2.out.at_ (by have := HNM.out; omega)
  clear h3 h4
  go_wp2
  clear d0 d1 d2 d3 d4
  go_loopw [4, 5, 6, 7] (fun iv _ _ _ wr => ∃ q : Nat, q ≤ nm ∧ iv = .int .i64 q ∧ RowKit.Hid (res = mErr s (c.methods.drop q)) ∧ RowKit.Hid (Below w2.heap.size w2 wr)) (fun iv _ _ _ _ => nm - (intOf iv).toNat)
  case atStart => exact ⟨0, by omega, rfl, HCH, hid (Below.refl _ _)⟩
  case round =>
    obtain ⟨q, hq, rfl, HQ, HBr⟩ := hrel
    clear HCH c17 c18
    have c17 := (HC2.out.on HBr.out).cs HI.out
    have c18 := (HC2.out.on HBr.out).cm HI.out
    rw [← HS.out] at c17
    by_cases hqn : q < nm
    · have hx : c.methods[q]? = some (c.methods[q]'(by have := HNM.out; omega)) := List.getElem?_eq_getElem _
      generalize c.methods[q]'(by have := HNM.out; omega) = l at hx
      have hst := mErr_step (s := s) hx
      obtain ⟨v, hv, al, cl, rfl, hl1, hl2, hl3, hl4⟩ := HM2.out.rows b o rfl q l hx
      have cv := (World.cell?_of_block (w := w2) (w' := wr) (a := ⟨b, o + q, none⟩) (HBr.out.block b (World.block_lt_of_cell? w2 _ hv))).trans hv
      have HHT := hid (fun (W : World) (hB : Below w2.heap.size w2 W) => Height_any l s al l.length cl W (hl1.on hB) rfl ⟨hl2, hl3⟩)
      have HST := hid hst
      unfold HtP at HHT
      obtain ⟨hp, hph⟩ : ∃ x, x = heightP l s := ⟨_, rfl⟩
      rw [← hph] at HHT HST
      obtain ⟨hs1, hat, he⟩ := hp
      simp only at HHT HST
      clear hx hst hv hl1 hl2 hl3 hl4 hph
      go_upto_region 11 with (fail)
      refine D.wp_region_mix [0, 1, 0, 0, 1, 0, 1, 3, 0, 0, 0, 0, 0, 0, 0] (fun W => W.cell? ⟨w.heap.size, 17, none⟩ = some (.int .i64 s) ∧ W.cell? ⟨w.heap.size, 18, none⟩ = some (.slice (some ⟨b, o, none⟩) nm cm) ∧ W.cell? ⟨b, o + q, none⟩ = some (.slice al l.length cl)) (by kernel_rfl) (by kernel_rfl) ⟨c17, c18, cv⟩ ?_
      repeat (first
        | (refine' C.wpMix_value _ rfl rfl _ _; rotate_left; (solve | (intro W; go_simp) | (intro W; go_simp; with_reducible rfl)); simp only [Act.put, List.setIfInBounds_toArray, List.set_cons_zero, List.set_cons_succ])
        | (refine' C.wpMix_read _ rfl rfl _ _; rotate_left; (solve | (rintro W ⟨q1, q2, q3⟩; go_simp) | (rintro W ⟨q1, q2, q3⟩; go_simp; with_reducible rfl)); simp only [Act.put, List.setIfInBounds_toArray, List.set_cons_zero, List.set_cons_succ]))
      refine C.wpMix_call 32 #[.slice al l.length cl, .int .i64 s] (by decide) rfl (by go_simp) ?_
      refine (HHT.out _ HBr.out.drew).mono ?_
      rintro e w3 ⟨a3, c3, rfl, hE⟩
      have HB3 := hid (HBr.out.drew.trans (hE.2.1.mono HBr.out.drew.size))
      clear hE HHT
      refine ⟨_, rfl, (fun h => by cases h), ?_⟩
      simp only [Act.put, List.setIfInBounds_toArray, List.set_cons_zero, List.set_cons_succ]
      repeat (first
        | (refine' C.wpMix_value _ rfl rfl _ _; rotate_left; (solve | (intro W; go_simp) | (intro W; go_simp; with_reducible rfl)); simp only [Act.put, List.setIfInBounds_toArray, List.set_cons_zero, List.set_cons_succ]))
      refine C.wpMix_end ?_
      clear c17 c18 cv
      by_cases h0 : he = 0
      · have d0 : (he != 0) = false := by simpa using h0
        rw [if_pos h0] at HST
        clear h0
        go_wp2
        go_roundw
        case rel => exact ⟨q + 1, by omega, by go_num, hid (by rw [HQ.out, HST.out]), HB3⟩
        case measure => simp [intOf]; omega
      · have d0 : (he != 0) = true := by simpa using h0
        rw [if_neg h0] at HST
        clear h0
        go_wp2
        go_ret
        exact ⟨by rw [HQ.out, HST.out]; rfl, HB2.out.trans (HB3.out.mono HB2.out.size)⟩
    · obtain rfl : q = nm := by omega
      have hz : res = 0 := by rw [HQ.out, HNM.out, List.drop_length]; rfl
      have HZ0 := hid hz
      clear hz
      go_wp2
      go_ret
      exact ⟨by rw [HZ0.out]; rfl, HB2.out.trans (HBr.out.mono HB2.out.size)⟩
end Go.Proofs.YtgfimkeopohjaaaDoor

namespace Go.Proofs.YtgfimkeopohjaaaDoor
open Go Go.ChangeShapes Go.WideShapes Go.ChangeAt Go.RowKit

def findC : List Cls → List Int → Option Nat
  | [], _ => none
  | c :: l, g => if c.id = g then some 0 else (findC l g).map (· + 1)
theorem findC_at {g : List Int} : ∀ {l : List Cls} {q : Nat} {f : Cls}, l[q]? = some f → f.id = g → (∀ i f', i < q → l[i]? = some f' → f'.id ≠ g) → findC l g = some q
  | [], _, _, h, _, _ => by cases h
  | a :: l, 0, f, h, hf, _ => by
    simp at h; subst h
    unfold findC
    rw [if_pos hf]
  | a :: l, q + 1, f, h, hf, hn => by
    unfold findC
    rw [if_neg (hn 0 a (by omega) rfl), findC_at (l := l) (q := q) (f := f) (by simpa using h) hf (fun i f' hi hf' => hn (i + 1) f' (by omega) (by simpa using hf'))]
    rfl
theorem findC_none {g : List Int} : ∀ {l : List Cls}, (∀ f ∈ l, f.id ≠ g) → findC l g = none
  | [], _ => rfl
  | a :: l, h => by
    unfold findC
    rw [if_neg (h a (by simp)), findC_none (fun f hf => h f (by simp [hf]))]
    rfl
theorem RwC.id {W : World} {B b o : Nat} {l : List Cls} (h : RwC W B (some ⟨b, o, none⟩) l) {i : Nat} {c : Cls} (hc : l[i]? = some c) : AtL W b (o + i * 19) (u8s c.id).toList ∧ c.id.length = 16 := by
  obtain ⟨vf, vm, h1, h2⟩ := h.rows b o rfl i c hc
  exact ⟨fun j v hv => h1 j v (clc_id h2.id j v (by simpa using hv)), h2.id⟩
set_option maxHeartbeats 1000000 in
set_option maxRecDepth 100000 in
theorem RFindC_any (w : World) (ad : Option Addr) (N cap : Nat) (l : List Cls) (g : List Int) (hg : g.length = 16) (hF : RwC w w.heap.size ad l) (hN : N = l.length) (hN2 : N ≤ 100000) (hc : N ≤ cap) :
    Calls Tryd.prog 25 #[.agg #[.slice ad N cap], .agg (u8s g)] w fun e w' => e = .returned (.int .i64 (rfV (findC l g))) ∧ Below w.heap.size w w' := by
  obtain ⟨w1, hw1⟩ : ∃ w1, w1 = (w.alloc (.cells #[.slice ad N cap] 24)).alloc (.cells (u8s g) 34) := ⟨_, rfl⟩
  have hb1 : Below w.heap.size w w1 := by rw [hw1]; exact ((Below.refl _ _).alloc (Nat.le_refl _) _).alloc (by simp) _
  have hm1 : Boxed w1 w.heap.size 24 (.slice ad N cap) := by rw [hw1]; exact (Boxed.new w _ _).alloc _
  have hid0 : AtL w1 (w.heap.size + 1) 0 (u8s g).toList := by
    rw [hw1]
    exact AtL.row (by simpa using heap_alloc2_new w (.cells #[.slice ad N cap] 24) (.cells (u8s g) 34))
  have HF := hid (hF.on hb1)
  have HN := hid hN
  have HG := hid hg
  have HI := hid hid0
  have HB1 := hid hb1
  have HM := hid hm1
  have HW := hid hw1
  clear hF hN hg hid0 hb1 hm1 hw1
  go_enter Tryd.func25, Tryd.ntmps25
  go_upto_region 1 with (fail)
  change Code.wp _ _ _ _ ((w.alloc (.cells #[.slice ad N cap] 24)).alloc (.cells (u8s g) 34))
  rw [← HW.out]
  clear HW
  go_wp2
  go_loopw [5] (fun p wr => ∃ q : Nat, q ≤ N ∧ p = .int .i64 q ∧ RowKit.Hid (∀ i f, i < q → l[i]? = some f → f.id ≠ g) ∧ RowKit.Hid (Fr (fun _ => False) w1 wr)) (fun p _ => N - (intOf p).toNat)
  case atStart => exact ⟨0, by omega, rfl, hid (fun i f h => by omega), hid (Fr.refl _ _)⟩
  case round =>
    obtain ⟨q, hq, rfl, HP, HFr⟩ := hrel
    have hbr := HFr.out.below (Nat.le_refl _) (fun _ h => h.elim)
    have cm : wr.cell? ⟨w.heap.size, 0, none⟩ = some (.slice ad N cap) := by
      have := (hbr.block w.heap.size HM.out.lt).trans HM.out
      exact Boxed.cell this
    have HBR := hid hbr
    clear hbr
    by_cases hql : q < N
    · have hx : l[q]? = some (l[q]'(by have := HN.out; omega)) := List.getElem?_eq_getElem (by have := HN.out; omega)
      generalize (l[q]'(by have := HN.out; omega)) = f at hx
      obtain ⟨b, o, rfl, hb⟩ := HF.out.at_ (by have := HN.out; omega)
      obtain ⟨hat, hfi⟩ := HF.out.id hx
      have he := fun W => eq28 f.id g hfi HG.out W
      have hgd := guard28
      have hS1 : ∀ W, Fr (fun _ => False) w1 W → AtL W b (o + q * 19) (u8s f.id).toList := fun W h => hat.fr h
      have hS2 : ∀ W, Fr (fun _ => False) w1 W → AtL W (w.heap.size + 1) 0 (u8s g).toList := fun W h => HI.out.fr h
      have hS3 : ∀ W, Fr (fun _ => False) w1 W → W.cell? ⟨w.heap.size, 0, none⟩ = some (.slice (some ⟨b, o, none⟩) N cap) := fun W h =>
        Boxed.cell (((h.below (Nat.le_refl _) (fun _ h => h.elim)).block w.heap.size HM.out.lt).trans HM.out)
      have HS1 := hid hS1
      have HS2 := hid hS2
      have HS3 := hid hS3
      have HX := hid hx
      have HFI := hid hfi
      clear hS1 hS2 hS3 hx hfi hb hat
      by_cases heq : f.id = g
      · have e1 : (f.id == g) = true := by simpa using heq
        rw [e1] at he
        have hfd : findC l g = some q := findC_at HX.out heq HP.out
        have HFD := hid hfd
        clear heq e1 hfd
        go_wp2
        refine D.wp_region_mix [0, 1, 0, 0, 0, 1, 1, 0] (fun W => Fr (fun _ => False) w1 W) (by kernel_rfl) (by kernel_rfl) HFr.out.drew ?_
        repeat (first
          | (refine C.wpMix_read _ rfl rfl (fun W hS => load_id rfl rfl (HS1.out W hS) HFI.out) ?_; simp only [Act.put, List.setIfInBounds_toArray, List.set_cons_zero, List.set_cons_succ])
          | (refine C.wpMix_read _ rfl rfl (fun W hS => load_id rfl rfl (HS2.out W hS) HG.out) ?_; simp only [Act.put, List.setIfInBounds_toArray, List.set_cons_zero, List.set_cons_succ])
          | (refine' C.wpMix_read _ rfl rfl _ _; rotate_left; (solve | (intro W hS; have h3 := HS3.out W hS; go_simp) | (intro W hS; have h3 := HS3.out W hS; go_simp; with_reducible rfl)); simp only [Act.put, List.setIfInBounds_toArray, List.set_cons_zero, List.set_cons_succ])
          | (refine' C.wpMix_value _ rfl rfl _ _; rotate_left; (solve | (intro W; go_simp) | (intro W; go_simp; with_reducible rfl)); simp only [Act.put, List.setIfInBounds_toArray, List.set_cons_zero, List.set_cons_succ]))
        refine C.wpMix_end ?_
        go_wp2
        go_ret
        refine ⟨by rw [HFD.out]; rfl, HB1.out.trans ((HFr.out.drew.below (Nat.le_refl _) (fun _ h => h.elim)).mono HB1.out.size)⟩
      · have e1 : (f.id == g) = false := by simpa using heq
        rw [e1] at he
        have HE := hid heq
        clear heq e1
        go_wp2
        refine D.wp_region_mix [0, 1, 0, 0, 0, 1, 1, 0] (fun W => Fr (fun _ => False) w1 W) (by kernel_rfl) (by kernel_rfl) HFr.out.drew ?_
        repeat (first
          | (refine C.wpMix_read _ rfl rfl (fun W hS => load_id rfl rfl (HS1.out W hS) HFI.out) ?_; simp only [Act.put, List.setIfInBounds_toArray, List.set_cons_zero, List.set_cons_succ])
          | (refine C.wpMix_read _ rfl rfl (fun W hS => load_id rfl rfl (HS2.out W hS) HG.out) ?_; simp only [Act.put, List.setIfInBounds_toArray, List.set_cons_zero, List.set_cons_succ])
          | (refine' C.wpMix_read _ rfl rfl _ _; rotate_left; (solve | (intro W hS; have h3 := HS3.out W hS; go_simp) | (intro W hS; have h3 := HS3.out W hS; go_simp; with_reducible rfl)); simp only [Act.put, List.setIfInBounds_toArray, List.set_cons_zero, List.set_cons_succ])
          | (refine' C.wpMix_value _ rfl rfl _ _; rotate_left; (solve | (intro W; go_simp) | (intro W; go_simp; with_reducible rfl)); simp only [Act.put, List.setIfInBounds_toArray, List.set_cons_zero, List.set_cons_succ]))
        refine C.wpMix_end ?_
        go_wp2
        go_roundw
        case rel =>
          refine ⟨q + 1, by omega, by go_num, hid (fun i f' hi hf' => ?_), hid HFr.out.drew⟩
          by_cases hiq : i = q
          · subst hiq
            rw [HX.out] at hf'; cases hf'
            exact HE.out
          · exact HP.out i f' (by omega) hf'
        case measure => simp [intOf]; omega
    · obtain rfl : q = N := by omega
      have hfd : findC l g = none := findC_none (fun f hf => by
        obtain ⟨i, hi⟩ := List.mem_iff_getElem?.1 hf
        exact HP.out i f (by have := HN.out; have := (List.getElem?_eq_some_iff.1 hi).1; omega) hi)
      have HFD := hid hfd
      clear hfd
      go_wp2
      go_ret
      exact ⟨by rw [HFD.out]; rfl, HB1.out.trans (HBR.out.mono HB1.out.size)⟩
/-- What is wrong with a module: where, why. -/
def chkFrom (l : List Cls) : Nat → List Cls → Int × Int
  | _, [] => (0, 0)
  | k, c :: r => if chkC c ≠ 0 then ((k : Int), chkC c) else if rfV (findC l c.id) < (k : Int) then ((k : Int), 13) else chkFrom l (k + 1) r
def chkM (l : List Cls) : Int × Int := if l.length = 0 ∨ 8 < l.length then (0, 20) else chkFrom l 0 l
theorem chk_step {l : List Cls} {q : Nat} {c : Cls} (h : l[q]? = some c) : chkFrom l q (l.drop q) = if chkC c ≠ 0 then ((q : Int), chkC c) else if rfV (findC l c.id) < (q : Int) then ((q : Int), 13) else chkFrom l (q + 1) (l.drop (q + 1)) := by
  obtain ⟨hlt, e⟩ := List.getElem?_eq_some_iff.1 h
  rw [List.drop_eq_getElem_cons hlt, e, chkFrom]
set_option maxHeartbeats 2000000 in
set_option maxRecDepth 100000 in
theorem RCheckM_any (w : World) (ad : Option Addr) (N cap : Nat) (l : List Cls) (hF : RwC w w.heap.size ad l) (hN : N = l.length) (hN2 : N ≤ 100000) (hc : N ≤ cap) (hfc : ∀ c ∈ l, c.faces.length ≤ 100000) :
    Calls Tryd.prog 11 #[.agg #[.slice ad N cap]] w fun e w' => e = .returned (.tuple #[.int .i64 (chkM l).1, .int .i64 (chkM l).2]) ∧ Below w.heap.size w w' := by
  obtain ⟨w1, hw1⟩ : ∃ w1, w1 = w.alloc (.cells #[.slice ad N cap] 24) := ⟨_, rfl⟩
  have hb1 : Below w.heap.size w w1 := by rw [hw1]; exact (Below.refl _ _).alloc (Nat.le_refl _) _
  have hm1 : Boxed w1 w.heap.size 24 (.slice ad N cap) := by rw [hw1]; exact Boxed.new w _ _
  have HF := hid (hF.on hb1)
  have HN := hid hN
  have HB1 := hid hb1
  have HM := hid hm1
  have HW := hid hw1
  have HFC := hid hfc
  have cm0 := hm1.cell
  clear hF hN hb1 hm1 hw1 hfc
  have HCH := hid (show chkM l = if N = 0 ∨ 8 < N then (0, 20) else chkFrom l 0 (l.drop 0) by rw [HN.out]; rfl)
  obtain ⟨res, hres⟩ : ∃ x, x = chkM l := ⟨_, rfl⟩
  rw [← hres] at HCH ⊢
  obtain ⟨r1, r2⟩ := res
  clear hres
  by_cases h1 : N = 0
  · have d1 : ((N : Int) == 0) = true := by simp; omega
    rw [if_pos (.inl h1)] at HCH
    cases HCH.out
    clear h1 HCH
    go_enter Tryd.func11, Tryd.ntmps11
    go_upto_region 1 with (fail)
    change Code.wp _ _ _ _ (w.alloc (.cells #[.slice ad N cap] 24))
    rw [← HW.out]
    go_wp2
    go_ret2
    exact ⟨rfl, HB1.out⟩
  have d1 : ((N : Int) == 0) = false := by simp; omega
  by_cases h2 : 8 < N
  · have d2 : decide (8 < (N : Int)) = true := by simp; omega
    rw [if_pos (.inr h2)] at HCH
    cases HCH.out
    clear h1 h2 HCH
    go_enter Tryd.func11, Tryd.ntmps11
    go_upto_region 1 with (fail)
    change Code.wp _ _ _ _ (w.alloc (.cells #[.slice ad N cap] 24))
    rw [← HW.out]
    go_wp2
    go_ret2
    exact ⟨rfl, HB1.out⟩
  have d2 : decide (8 < (N : Int)) = false := by simp; omega
  rw [if_neg (by omega)] at HCH
  have hN8 : N ≤ 8 := by omega
  obtain ⟨b, o, rfl, _⟩ := HF.out.at_ (by have := HN.out; omega)
  clear h1 h2
  go_enter Tryd.func11, Tryd.ntmps11
  go_upto_region 1 with (fail)
  change Code.wp _ _ _ _ (w.alloc (.cells #[.slice (some ⟨b, o, none⟩) N cap] 24))
  rw [← HW.out]
  go_wp2
  clear d1 d2 cm0 HW
  go_loopw [4, 5] (fun p _ wr => ∃ q : Nat, q ≤ N ∧ p = .int .i64 q ∧ RowKit.Hid ((r1, r2) = chkFrom l q (l.drop q)) ∧ RowKit.Hid (Below w1.heap.size w1 wr)) (fun p _ _ => N - (intOf p).toNat)
  case atStart => exact ⟨0, by omega, rfl, HCH, hid (Below.refl _ _)⟩
  case round =>
    obtain ⟨q, hq, rfl, HQ, HBr⟩ := hrel
    clear HCH
    have cm : wr.cell? ⟨w.heap.size, 0, none⟩ = some (.slice (some ⟨b, o, none⟩) N cap) := Boxed.cell ((HBr.out.block w.heap.size HM.out.lt).trans HM.out)
    by_cases hql : q < N
    · have hx : l[q]? = some (l[q]'(by have := HN.out; omega)) := List.getElem?_eq_getElem (by have := HN.out; omega)
      generalize (l[q]'(by have := HN.out; omega)) = f at hx
      obtain ⟨vf, vm, hat, hcc⟩ := (HF.out.on HBr.out).rows b o rfl q f hx
      have hst := chk_step hx
      have HST := hid hst
      have HCC := hid (RCheckClass_any f vf vm wr hcc (HFC.out f (List.mem_of_getElem? hx)))
      have HAT := hid hat
      have HLN := hid (clc_len (vf := vf) (vm := vm) hcc.id)
      have HFD := hid (fun (W : World) (hB : Below w1.heap.size w1 W) => RFindC_any W (some ⟨b, o, none⟩) N cap l f.id hcc.id (HF.out.on hB) HN.out hN2 hc)
      have HID := hid hcc.id
      have HX := hid hx
      obtain ⟨e0, he0⟩ : ∃ e, e = chkC f := ⟨_, rfl⟩
      obtain ⟨fd, hfd⟩ : ∃ e, e = rfV (findC l f.id) := ⟨_, rfl⟩
      rw [← he0, ← hfd] at HST
      rw [← he0] at HCC
      rw [← hfd] at HFD
      clear hx hat hcc hst he0 hfd
      go_wp2_with (first
        | ((with_reducible refine at_op ⟨some 27, _, _, _, _, _⟩ ?_); refine wpList_run rfl _ (load_c rfl rfl HAT.out HLN.out) ?_)
        | fail)
      refine HCC.out.mono ?_
      rintro e w3 ⟨rfl, hb3⟩
      have HB3 := hid (HBr.out.trans (hb3.mono HBr.out.size))
      clear hb3 HCC HAT HLN cm
      by_cases h0 : e0 = 0
      case neg =>
        have d0 : (e0 != 0) = true := by simpa using h0
        rw [if_pos h0] at HST
        clear h0
        have hr := HQ.out
        rw [HST.out] at hr
        cases hr
        go_wp2
        go_ret2
        exact ⟨rfl, HB1.out.trans (HB3.out.mono HB1.out.size)⟩
      have d0 : (e0 != 0) = false := by simpa using h0
      rw [if_neg (by omega)] at HST
      clear h0
      have cm3 : w3.cell? ⟨w.heap.size, 0, none⟩ = some (.slice (some ⟨b, o, none⟩) N cap) := Boxed.cell ((HB3.out.block w.heap.size HM.out.lt).trans HM.out)
      have hat3 : AtL w3 b (o + q * 19) (u8s f.id).toList := ((HF.out.on HB3.out).id HX.out).1
      have H3 := hid hat3
      clear hat3
      by_cases h1 : fd < (q : Int)
      · have d1 : decide (fd < (q : Int)) = true := by simpa using h1
        rw [if_pos h1] at HST
        clear h1
        have hr := HQ.out
        rw [HST.out] at hr
        cases hr
        go_upto_region 9 with (fail)
        refine D.wp_region_mix [1, 0, 1, 0, 0, 0, 1, 3, 0, 0] (fun W => W.cell? ⟨w.heap.size, 0, none⟩ = some (.slice (some ⟨b, o, none⟩) N cap) ∧ AtL W b (o + q * 19) (u8s f.id).toList) (by kernel_rfl) (by kernel_rfl) ⟨cm3, H3.out⟩ ?_
        repeat (first
          | (refine C.wpMix_read _ rfl rfl (fun W hS => load_id rfl rfl hS.2 HID.out) ?_; simp only [Act.put, List.setIfInBounds_toArray, List.set_cons_zero, List.set_cons_succ])
          | (refine' C.wpMix_read _ rfl rfl _ _; rotate_left; (solve | (intro W hS; have h3 := hS.1; clear hS; go_simp) | (intro W hS; have h3 := hS.1; clear hS; go_simp; with_reducible rfl)); simp only [Act.put, List.setIfInBounds_toArray, List.set_cons_zero, List.set_cons_succ])
          | (refine' C.wpMix_value _ rfl rfl _ _; rotate_left; (solve | (intro W; go_simp) | (intro W; go_simp; with_reducible rfl)); simp only [Act.put, List.setIfInBounds_toArray, List.set_cons_zero, List.set_cons_succ]))
        refine C.wpMix_call 25 #[.agg #[.slice (some ⟨b, o, none⟩) N cap], .agg (u8s f.id)] (by decide) rfl (by go_simp) ?_
        refine (HFD.out _ HB3.out.drew).mono ?_
        rintro e w4 ⟨rfl, hb4⟩
        have HB4 := hid (HB3.out.drew.trans (hb4.mono HB3.out.drew.size))
        clear hb4 HFD
        refine ⟨_, rfl, (fun h => by cases h), ?_⟩
        simp only [Act.put, List.setIfInBounds_toArray, List.set_cons_zero, List.set_cons_succ]
        repeat (first
          | (refine' C.wpMix_value _ rfl rfl _ _; rotate_left; (solve | (intro W; go_simp) | (intro W; go_simp; with_reducible rfl)); simp only [Act.put, List.setIfInBounds_toArray, List.set_cons_zero, List.set_cons_succ]))
        refine C.wpMix_end ?_
        clear cm3
        go_wp2
        go_ret2
        exact ⟨rfl, HB1.out.trans (HB4.out.mono HB1.out.size)⟩
      · have d1 : decide (fd < (q : Int)) = false := by simpa using h1
        rw [if_neg h1] at HST
        clear h1
        go_upto_region 9 with (fail)
        refine D.wp_region_mix [1, 0, 1, 0, 0, 0, 1, 3, 0, 0] (fun W => W.cell? ⟨w.heap.size, 0, none⟩ = some (.slice (some ⟨b, o, none⟩) N cap) ∧ AtL W b (o + q * 19) (u8s f.id).toList) (by kernel_rfl) (by kernel_rfl) ⟨cm3, H3.out⟩ ?_
        repeat (first
          | (refine C.wpMix_read _ rfl rfl (fun W hS => load_id rfl rfl hS.2 HID.out) ?_; simp only [Act.put, List.setIfInBounds_toArray, List.set_cons_zero, List.set_cons_succ])
          | (refine' C.wpMix_read _ rfl rfl _ _; rotate_left; (solve | (intro W hS; have h3 := hS.1; clear hS; go_simp) | (intro W hS; have h3 := hS.1; clear hS; go_simp; with_reducible rfl)); simp only [Act.put, List.setIfInBounds_toArray, List.set_cons_zero, List.set_cons_succ])
          | (refine' C.wpMix_value _ rfl rfl _ _; rotate_left; (solve | (intro W; go_simp) | (intro W; go_simp; with_reducible rfl)); simp only [Act.put, List.setIfInBounds_toArray, List.set_cons_zero, List.set_cons_succ]))
        refine C.wpMix_call 25 #[.agg #[.slice (some ⟨b, o, none⟩) N cap], .agg (u8s f.id)] (by decide) rfl (by go_simp) ?_
        refine (HFD.out _ HB3.out.drew).mono ?_
        rintro e w4 ⟨rfl, hb4⟩
        have HB4 := hid (HB3.out.drew.trans (hb4.mono HB3.out.drew.size))
        clear hb4 HFD
        refine ⟨_, rfl, (fun h => by cases h), ?_⟩
        simp only [Act.put, List.setIfInBounds_toArray, List.set_cons_zero, List.set_cons_succ]
        repeat (first
          | (refine' C.wpMix_value _ rfl rfl _ _; rotate_left; (solve | (intro W; go_simp) | (intro W; go_simp; with_reducible rfl)); simp only [Act.put, List.setIfInBounds_toArray, List.set_cons_zero, List.set_cons_succ]))
        refine C.wpMix_end ?_
        clear cm3
        go_wp2
        go_roundw
        case rel => exact ⟨q + 1, by omega, by go_num, hid (by rw [HQ.out, HST.out]), HB4⟩
        case measure => simp [intOf]; omega
    · obtain rfl : q = N := by omega
      have hr := HQ.out
      rw [HN.out, List.drop_length] at hr
      cases hr
      clear HQ
      go_wp2
      go_ret2
      exact ⟨rfl, HB1.out.trans (HBr.out.mono HB1.out.size)⟩
end Go.Proofs.YtgfimkeopohjaaaDoor

namespace Go.Proofs.YtgfimkeopohjaaaDoor
open Go Go.ChangeShapes Go.WideShapes Go.ChangeAt Go.RowKit

/-- What is looked at. -/
def SmC (c : Cls) : Prop := c.faces.length ≤ 40 ∧ c.methods.length ≤ 20 ∧ ∀ l ∈ c.methods, l.length ≤ 60
def SmM (l : List Cls) : Prop := l.length ≤ 12 ∧ ∀ c ∈ l, SmC c
theorem sm_all {α : Type} {l : List α} {R : α → Prop} (h : ∀ i y, i < l.length → l[i]? = some y → R y) : ∀ y ∈ l, R y := fun y hy => by
  obtain ⟨i, hi⟩ := List.mem_iff_getElem?.1 hy
  exact h i y (List.getElem?_eq_some_iff.1 hi).1 hi
def GrP (w : World) (l : List Cls) (e : Ending) (w' : World) : Prop := ∃ r : Bool, e = .returned (.bool r) ∧ (r = false → SmM l) ∧ Below w.heap.size w w'
set_option maxRecDepth 100000 in
set_option maxHeartbeats 4000000 in
theorem great_any (w : World) (ad : Option Addr) (N cap : Nat) (l : List Cls) (hF : RwC w w.heap.size ad l) (hN : N = l.length) (hc : N ≤ cap) :
    Calls Tryd.prog 8 #[.agg #[.slice ad N cap]] w (GrP w l) := by
  obtain ⟨w1, hw1⟩ : ∃ w1, w1 = w.alloc (.cells #[.slice ad N cap] 24) := ⟨_, rfl⟩
  have hb1 : Below w.heap.size w w1 := by rw [hw1]; exact (Below.refl _ _).alloc (Nat.le_refl _) _
  have hm1 : Boxed w1 w.heap.size 24 (.slice ad N cap) := by rw [hw1]; exact Boxed.new w _ _
  have HF := hid (hF.on hb1)
  have HN := hid hN
  have HB1 := hid hb1
  have HW := hid hw1
  have cm0 := hm1.cell
  clear hF hN hb1 hm1 hw1
  by_cases h12 : 12 < N
  · have d1 : decide (12 < (N : Int)) = true := by simp; omega
    clear h12
    go_enter Tryd.func8, Tryd.ntmps8
    go_upto_region 1 with (fail)
    change Code.wp _ _ _ _ (w.alloc (.cells #[.slice ad N cap] 24))
    rw [← HW.out]
    go_wp2
    go_ret
    exact ⟨true, rfl, (fun h => by cases h), HB1.out⟩
  have d1 : decide (12 < (N : Int)) = false := by simp; omega
  go_enter Tryd.func8, Tryd.ntmps8
  go_upto_region 1 with (fail)
  change Code.wp _ _ _ _ (w.alloc (.cells #[.slice ad N cap] 24))
  rw [← HW.out]
  go_wp2
  clear d1 HW
  go_loop [3, 4] (fun p _ => ∃ q : Nat, q ≤ N ∧ p = .int .i64 q ∧ RowKit.Hid (∀ i c, i < q → l[i]? = some c → SmC c)) (fun p _ => N - (intOf p).toNat)
  case atStart => exact ⟨0, by omega, rfl, hid (fun i c h => by omega)⟩
  case round =>
    obtain ⟨q, hq, rfl, HQ⟩ := hrel
    by_cases hql : q < N
    · have hx : l[q]? = some (l[q]'(by have := HN.out; omega)) := List.getElem?_eq_getElem (by have := HN.out; omega)
      generalize (l[q]'(by have := HN.out; omega)) = f at hx
      obtain ⟨b, o, rfl, hb⟩ := HF.out.at_ (by have := HN.out; omega)
      obtain ⟨vf, vm, hat, hcc⟩ := HF.out.rows b o rfl q f hx
      have c16 := hat 16 _ (clc_f hcc.id)
      have c18 := hat 18 _ (clc_m hcc.id)
      obtain ⟨af, kf, rfl, _, _, _⟩ := hcc.f
      obtain ⟨am, km, rfl, hM, hk1, hk2⟩ := hcc.m
      have HM := hid hM
      have HX := hid hx
      clear hx hat hcc hM
      obtain ⟨nf, hnf⟩ : ∃ n, n = f.faces.length := ⟨_, rfl⟩
      obtain ⟨nm, hnm⟩ : ∃ n, n = f.methods.length := ⟨_, rfl⟩
      rw [← hnf] at c16
      rw [← hnm] at c18 hk1
      have NF := hid hnf
      have NM := hid hnm
      clear hnf hnm
      by_cases hf : 40 < nf
      · have d1 : decide (40 < (nf : Int)) = true := by simp; omega
        clear hf
        go_wp2
        go_ret
        exact ⟨true, rfl, (fun h => by cases h), HB1.out⟩
      have d1 : decide (40 < (nf : Int)) = false := by simp; omega
      by_cases hm : 20 < nm
      · have d2 : decide (20 < (nm : Int)) = true := by simp; omega
        clear hf hm
        go_wp2
        go_ret
        exact ⟨true, rfl, (fun h => by cases h), HB1.out⟩
      have d2 : decide (20 < (nm : Int)) = false := by simp; omega
      go_wp2
      clear d1 d2
      go_loop [4] (fun p => ∃ k : Nat, k ≤ nm ∧ p = .int .i64 k ∧ RowKit.Hid (∀ i (m : List Ins), i < k → f.methods[i]? = some m → m.length ≤ 60)) (fun p => nm - (intOf p).toNat)
      case atStart => exact ⟨0, by omega, rfl, hid (fun i c h => by omega)⟩
      case round =>
        obtain ⟨k, hk, rfl, HK⟩ := hrel
        by_cases hkn : k < nm
        · have hx : f.methods[k]? = some (f.methods[k]'(by have := NM.out; omega)) := List.getElem?_eq_getElem _
          generalize (f.methods[k]'(by have := NM.out; omega)) = m at hx
          obtain ⟨b2, o2, rfl, _⟩ := HM.out.at_ (by have := NM.out; omega)
          obtain ⟨v, cv, al, cl, rfl, _⟩ := HM.out.rows b2 o2 rfl k m hx
          have HX2 := hid hx
          clear hx
          obtain ⟨n, hn⟩ : ∃ n, n = m.length := ⟨_, rfl⟩
          rw [← hn] at cv
          have NN := hid hn
          clear hn
          by_cases h60 : 60 < n
          · have d1 : decide (60 < (n : Int)) = true := by simp; omega
            clear h60
            go_wp2
            go_ret
            exact ⟨true, rfl, (fun h => by cases h), HB1.out⟩
          · have d1 : decide (60 < (n : Int)) = false := by simp; omega
            have H60 := hid h60
            clear h60
            go_wp2
            go_round
            case rel =>
              refine ⟨k + 1, by omega, by go_num, hid (fun i m' hi hm' => ?_)⟩
              by_cases hik : i = k
              · subst hik
                rw [HX2.out] at hm'
                cases hm'
                have := H60.out
                have := NN.out
                omega
              · exact HK.out i m' (by omega) hm'
            case measure => simp [intOf]; omega
        · obtain rfl : k = nm := by omega
          go_wp2
          go_round
          case rel =>
            refine ⟨q + 1, by omega, by go_num, hid (fun i c hi hc => ?_)⟩
            by_cases hik : i = q
            · subst hik
              rw [HX.out] at hc
              cases hc
              exact ⟨by rw [← NF.out]; omega, by rw [← NM.out]; omega, sm_all (fun i y hi hy => HK.out i y (by rw [NM.out]; exact hi) hy)⟩
            · exact HQ.out i c (by omega) hc
          case measure => simp [intOf]; omega
    · obtain rfl : q = N := by omega
      go_wp2
      go_ret
      exact ⟨false, rfl, fun _ => ⟨by rw [← HN.out]; omega, sm_all (fun i y hi hy => HQ.out i y (by rw [HN.out]; exact hi) hy)⟩, HB1.out⟩
end Go.Proofs.YtgfimkeopohjaaaDoor

namespace Go.Proofs.YtgfimkeopohjaaaDoor
open Go Go.ChangeShapes Go.WideShapes Go.ChangeAt Go.RowKit

/-- What the laws ask of CheckClass, Check, awake. -/
def CcC (w0 : World) : Prop := ∀ (c : Cls) (vf vm : Value) (w : World), Below w0.heap.size w0 w → ClC w w.heap.size c vf vm → SmC c →
  Calls Tryd.prog 12 #[.agg (clc c vf vm).toArray] w fun e w' => e = .returned (.int .i64 (chkC c)) ∧ Below w.heap.size w w'
def ChC (w0 : World) : Prop := ∀ (l : List Cls) (ad : Option Addr) (N cap : Nat) (w : World), Below w0.heap.size w0 w → RwC w w.heap.size ad l → N = l.length → N ≤ cap → cap ≤ 9223372036854775807 → SmM l →
  Calls Tryd.prog 10 #[.agg #[.slice ad N cap]] w fun e w' => e = .returned (.tuple #[.int .i64 (chkM l).1, .int .i64 (chkM l).2]) ∧ Below w.heap.size w w'
def AwM (w0 : World) : Prop := ∀ w : World, Below w0.heap.size w0 w → Calls Tryd.prog 9 #[] w fun e w' => e = .returned (.bool true) ∧ Below w.heap.size w w'
set_option maxRecDepth 100000 in
set_option maxHeartbeats 8000000 in
theorem ClassChecks_any (w : World) (HC : CcC w) (HK : ChC w) (HA : AwM w) (l : List Cls) (ad : Option Addr) (N cap : Nat) (hF : RwC w w.heap.size ad l) (hN : N = l.length) (hc : N ≤ cap) (hcm : cap ≤ 9223372036854775807) :
    Calls Tryd.prog 3 #[.agg #[.slice ad N cap]] w fun e w' => e = .returned (.bool true) ∧ Below w.heap.size w w' := by
  obtain ⟨w1, hw1⟩ : ∃ w1, w1 = w.alloc (.cells #[.slice ad N cap] 24) := ⟨_, rfl⟩
  have hb1 : Below w.heap.size w w1 := by rw [hw1]; exact (Below.refl _ _).alloc (Nat.le_refl _) _
  have hm1 : Boxed w1 w.heap.size 24 (.slice ad N cap) := by rw [hw1]; exact Boxed.new w _ _
  have HF := hid (hF.on hb1)
  have HN := hid hN
  have HB1 := hid hb1
  have HW := hid hw1
  have HM := hid hm1
  have cm0 := hm1.cell
  have HAW := hid HA
  have HCC := hid HC
  have HKK := hid HK
  clear hF hN hb1 hm1 hw1 HC HK HA
  go_enter Tryd.func3, Tryd.ntmps3
  go_upto_region 1 with (fail)
  change Code.wp _ _ _ _ (w.alloc (.cells #[.slice ad N cap] 24))
  rw [← HW.out]
  go_wp2_with fail
  refine (great_any w1 ad N cap l HF.out HN.out hc).mono ?_
  rintro e w2 ⟨r, rfl, hr, hb2⟩
  have HB2 := hid hb2
  cases r with
  | true =>
    clear hr hb2 cm0
    go_wp2_with fail
    refine (HAW.out w2 (HB1.out.trans (HB2.out.mono HB1.out.size))).mono ?_
    rintro e w3 ⟨rfl, hb3⟩
    have HB3 := hid (HB1.out.trans ((HB2.out.trans (hb3.mono HB2.out.size)).mono HB1.out.size))
    clear hb3
    go_wp2
    go_ret
    exact ⟨rfl, HB3.out⟩
  | false =>
    have HSM := hid (hr rfl)
    clear hr hb2 cm0
    have hN12 : N ≤ 12 := by have h := HSM.out.1; have h2 := HN.out; omega
    have cm2 : w2.cell? ⟨w.heap.size, 0, none⟩ = some (.slice ad N cap) := Boxed.cell ((HB2.out.block w.heap.size HM.out.lt).trans HM.out)
    go_wp2_with fail
    refine (HKK.out l ad N cap w2 (HB1.out.trans (HB2.out.mono HB1.out.size)) (HF.out.on HB2.out) HN.out hc hcm HSM.out).mono ?_
    rintro e w3 ⟨rfl, hb3⟩
    have HB3 := hid (HB2.out.trans (hb3.mono HB2.out.size))
    clear hb3 cm2
    have cm3 : w3.cell? ⟨w.heap.size, 0, none⟩ = some (.slice ad N cap) := Boxed.cell ((HB3.out.block w.heap.size HM.out.lt).trans HM.out)
    go_wp2_with fail
    refine (RCheckM_any w3 ad N cap l (HF.out.on HB3.out) HN.out (by omega) hc (fun c hcl => by have := (HSM.out.2 c hcl).1; omega)).mono ?_
    rintro e w4 ⟨rfl, hb4⟩
    have HB4 := hid (HB3.out.trans (hb4.mono HB3.out.size))
    clear hb4 cm3
    obtain ⟨c1, hc1⟩ : ∃ x, x = (chkM l).1 := ⟨_, rfl⟩
    obtain ⟨c2, hc2⟩ : ∃ x, x = (chkM l).2 := ⟨_, rfl⟩
    rw [← hc1, ← hc2]
    clear hc1 hc2
    go_wp2
    go_loopw [7] (fun p wr => ∃ q : Nat, q ≤ N ∧ p = .int .i64 q ∧ RowKit.Hid (Below w1.heap.size w1 wr)) (fun p _ => N - (intOf p).toNat)
    case atStart => exact ⟨0, by omega, rfl, HB4⟩
    case round =>
      obtain ⟨q, hq, rfl, HBr⟩ := hrel
      have cm : wr.cell? ⟨w.heap.size, 0, none⟩ = some (.slice ad N cap) := Boxed.cell ((HBr.out.block w.heap.size HM.out.lt).trans HM.out)
      by_cases hql : q < N
      · have hx : l[q]? = some (l[q]'(by have := HN.out; omega)) := List.getElem?_eq_getElem (by have := HN.out; omega)
        generalize (l[q]'(by have := HN.out; omega)) = f at hx
        obtain ⟨b, o, rfl, hb⟩ := HF.out.at_ (by have := HN.out; omega)
        obtain ⟨vf, vm, hat, hcc⟩ := HF.out.rows b o rfl q f hx
        have HAT := hid (fun W (hB : Below w1.heap.size w1 W) => hat.below hB)
        have HLN := hid (clc_len (vf := vf) (vm := vm) hcc.id)
        have HCF := hid (fun W (hB : Below w1.heap.size w1 W) => hcc.on hB)
        have HSF := hid (HSM.out.2 f (List.mem_of_getElem? hx))
        obtain ⟨e0, he0⟩ : ∃ e, e = chkC f := ⟨_, rfl⟩
        have HE0 := hid he0
        clear hx hat hcc he0
        go_upto_region 8 with (fail)
        refine D.wp_region_mix [0, 1, 0, 0, 1, 2, 0, 1, 0, 0, 1, 2, 0] (fun W => Below w1.heap.size w1 W) (by kernel_rfl) (by kernel_rfl) HBr.out.drew ?_
        have HMC := hid (fun W (hB : Below w1.heap.size w1 W) => (Boxed.cell ((hB.block w.heap.size HM.out.lt).trans HM.out) : W.cell? ⟨w.heap.size, 0, none⟩ = some (.slice (some ⟨b, o, none⟩) N cap)))
        repeat (first
          | ((with_reducible refine C.atM ⟨some 32, _, _, _, _, _⟩ ?_); refine C.wpMix_read _ rfl rfl (fun W hS => load_c rfl rfl (HAT.out W hS) HLN.out) ?_; simp only [Act.put, List.setIfInBounds_toArray, List.set_cons_zero, List.set_cons_succ])
          | (refine' C.wpMix_read _ rfl rfl _ _; rotate_left; (solve | (intro W hS; have h3 := HMC.out W hS; clear hS; go_simp) | (intro W hS; have h3 := HMC.out W hS; clear hS; go_simp; with_reducible rfl)); simp only [Act.put, List.setIfInBounds_toArray, List.set_cons_zero, List.set_cons_succ])
          | (refine' C.wpMix_value _ rfl rfl _ _; rotate_left; (solve | (intro W; go_simp) | (intro W; go_simp; with_reducible rfl)); simp only [Act.put, List.setIfInBounds_toArray, List.set_cons_zero, List.set_cons_succ]))
        refine C.wpMix_call 12 #[.agg (clc f vf vm).toArray] (by decide) rfl (by go_simp) ?_
        refine (HCC.out f vf vm _ (HB1.out.trans (HBr.out.drew.mono HB1.out.size)) (HCF.out _ HBr.out.drew) HSF.out).mono ?_
        rintro e w5 ⟨rfl, hb5⟩
        have HB5 := hid (HBr.out.drew.trans (hb5.mono HBr.out.drew.size))
        clear hb5
        refine ⟨_, rfl, fun _ => HB5.out, ?_⟩
        rw [← HE0.out]
        simp only [Act.put, List.setIfInBounds_toArray, List.set_cons_zero, List.set_cons_succ]
        repeat (first
          | ((with_reducible refine C.atM ⟨some 38, _, _, _, _, _⟩ ?_); refine C.wpMix_read _ rfl rfl (fun W hS => load_c rfl rfl (HAT.out W hS) HLN.out) ?_; simp only [Act.put, List.setIfInBounds_toArray, List.set_cons_zero, List.set_cons_succ])
          | (refine' C.wpMix_read _ rfl rfl _ _; rotate_left; (solve | (intro W hS; have h3 := HMC.out W hS; clear hS; go_simp) | (intro W hS; have h3 := HMC.out W hS; clear hS; go_simp; with_reducible rfl)); simp only [Act.put, List.setIfInBounds_toArray, List.set_cons_zero, List.set_cons_succ])
          | (refine' C.wpMix_value _ rfl rfl _ _; rotate_left; (solve | (intro W; go_simp) | (intro W; go_simp; with_reducible rfl)); simp only [Act.put, List.setIfInBounds_toArray, List.set_cons_zero, List.set_cons_succ]))
        refine C.wpMix_call 13 #[.agg (clc f vf vm).toArray] (by decide) rfl (by go_simp) ?_
        refine (RCheckClass_any f vf vm w5 (HCF.out _ HB5.out) (by have := HSF.out.1; omega)).mono ?_
        rintro e w6 ⟨rfl, hb6⟩
        have HB6 := hid (HB5.out.trans (hb6.mono HB5.out.size))
        clear hb6
        refine ⟨_, rfl, fun _ => HB6.out, ?_⟩
        rw [← HE0.out]
        simp only [Act.put, List.setIfInBounds_toArray, List.set_cons_zero, List.set_cons_succ]
        repeat (first
          | ((with_reducible refine C.atM ⟨some 99, _, _, _, _, _⟩ ?_); refine C.wpMix_read _ rfl rfl (fun W hS => load_c rfl rfl (HAT.out W hS) HLN.out) ?_; simp only [Act.put, List.setIfInBounds_toArray, List.set_cons_zero, List.set_cons_succ])
          | (refine' C.wpMix_read _ rfl rfl _ _; rotate_left; (solve | (intro W hS; have h3 := HMC.out W hS; clear hS; go_simp) | (intro W hS; have h3 := HMC.out W hS; clear hS; go_simp; with_reducible rfl)); simp only [Act.put, List.setIfInBounds_toArray, List.set_cons_zero, List.set_cons_succ])
          | (refine' C.wpMix_value _ rfl rfl _ _; rotate_left; (solve | (intro W; go_simp) | (intro W; go_simp; with_reducible rfl)); simp only [Act.put, List.setIfInBounds_toArray, List.set_cons_zero, List.set_cons_succ]))
        refine C.wpMix_end ?_
        go_wp2
        go_roundw
        case rel => exact ⟨q + 1, by omega, by go_num, HB6⟩
        case measure => simp [intOf]; omega
      · obtain rfl : q = N := by omega
        go_upto_region 10 with (fail)
        go_wp2_with fail
        refine (HAW.out wr (HB1.out.trans (HBr.out.mono HB1.out.size))).mono ?_
        rintro e w5 ⟨rfl, hb5⟩
        have HB5 := hid (HB1.out.trans ((HBr.out.trans (hb5.mono HBr.out.size)).mono HB1.out.size))
        clear hb5
        go_wp2
        go_ret
        exact ⟨rfl, HB5.out⟩
end Go.Proofs.YtgfimkeopohjaaaDoor
