/- CmF CmC in one -/
import Derived.Test.YtgfimkeopohjaaaDoorClL
import Derived.Test.YtgfimkeopohjaaaDoorClT
import Derived.Test.YtgfimkeopohjaaaDoorFcKp
import Derived.Test.YtgfimkeopohjaaaDoorCkE
namespace Go.Proofs.YtgfimkeopohjaaaDoor
open Go Go.ChangeShapes Go.WideShapes Go.ChangeAt Go.RowKit

/-- What Find tells. -/
def fndP (l : List Cls) (g : List Int) : Int × Int := match findC l g with
  | some q => ((q : Int), 0)
  | none => (0, 8)
/-- A class, copied into a block of its own. -/
def boxD (w : World) (cs : List Value) : World := (w.alloc (.cells zC 38)).setRow w.heap.size cs.toArray
theorem boxD_row (w : World) (cs : List Value) : (boxD w cs).heap[w.heap.size]? = some (.cells cs.toArray 38 (0, 0)) := setRow_heap _ _ _ _ _ (0, 0) (heap_alloc_new _ _)
theorem boxD_below (w : World) (cs : List Value) : Below w.heap.size w (boxD w cs) := below_setRow ((Below.refl _ _).alloc (Nat.le_refl _) _) _ _ (Nat.le_refl _)
set_option maxHeartbeats 1000000 in
set_option maxRecDepth 100000 in
theorem CFind_any (w : World) (ad : Option Addr) (N cap : Nat) (l : List Cls) (g : List Int) (hg : g.length = 16) (hF : RwC w w.heap.size ad l) (hN : N = l.length) (hN2 : N ≤ 100000) (hc : N ≤ cap) :
    Calls Tryd.prog 24 #[.agg #[.slice ad N cap], .agg (u8s g)] w fun e w' => e = .returned (.tuple #[.int .i64 (fndP l g).1, .int .i64 (fndP l g).2]) ∧ Below w.heap.size w w' := by
  obtain ⟨w1, hw1⟩ : ∃ w1, w1 = (w.alloc (.cells #[.slice ad N cap] 24)).alloc (.cells (u8s g) 34) := ⟨_, rfl⟩
  have hb1 : Below w.heap.size w w1 := by rw [hw1]; exact ((Below.refl _ _).alloc (Nat.le_refl _) _).alloc (by simp) _
  have hm1 : Boxed w1 w.heap.size 24 (.slice ad N cap) := by rw [hw1]; exact (Boxed.new w _ _).alloc _
  have hid0 : AtL w1 (w.heap.size + 1) 0 (u8s g).toList := by
    rw [hw1]
    exact AtL.row (by simpa using heap_alloc2_new w (.cells #[.slice ad N cap] 24) (.cells (u8s g) 34))
  have HF := hid (hF.on hb1)
  have HN := hid hN
  have HG := hid hg
  have HI := hid hid0
  have HB1 := hid hb1
  have HM := hid hm1
  have HW := hid hw1
  have cm1 : w1.cell? ⟨w.heap.size, 0, none⟩ = some (.slice ad N cap) := hm1.cell
  clear hF hN hg hid0 hb1 hm1 hw1
  go_enter Tryd.func24, Tryd.ntmps24
  go_upto_region 1 with (fail)
  change Code.wp _ _ _ _ ((w.alloc (.cells #[.slice ad N cap] 24)).alloc (.cells (u8s g) 34))
  rw [← HW.out]
  clear HW
  go_wp2
  clear cm1
  go_loopw [11] (fun p wr => ∃ q : Nat, q ≤ N ∧ p = .int .i64 q ∧ RowKit.Hid (∀ i f, i < q → l[i]? = some f → f.id ≠ g) ∧ RowKit.Hid (Below w1.heap.size w1 wr)) (fun p _ => N - (intOf p).toNat)
  case atStart => exact ⟨0, by omega, rfl, hid (fun i f h => by omega), hid (Below.refl _ _)⟩
  case round =>
    obtain ⟨q, hq, rfl, HP, HBr⟩ := hrel
    by_cases hql : q < N
    · have hx : l[q]? = some (l[q]'(by have := HN.out; omega)) := List.getElem?_eq_getElem (by have := HN.out; omega)
      generalize (l[q]'(by have := HN.out; omega)) = f at hx
      obtain ⟨b, o, rfl, hb⟩ := HF.out.at_ (by have := HN.out; omega)
      obtain ⟨vf, vm, hat, hcc⟩ := HF.out.rows b o rfl q f hx
      have HAT := hid (hat.below HBr.out)
      have HID := hid hcc.id
      have HLN := hid (clc_len (vf := vf) (vm := vm) hcc.id)
      have HIN := hid (show (Tryd.prog.info? 38).map (·.size) = some (clc f vf vm).toArray.size by rw [List.size_toArray, HLN.out]; exact sizeC)
      have HON := hid (show (clc f vf vm).toArray.all (·.oneCell') = true from clc_one (by obtain ⟨a, c, rfl, _⟩ := hcc.f; rfl) (by obtain ⟨a, c, rfl, _⟩ := hcc.m; rfl))
      have hbc := boxD_below wr (clc f vf vm)
      have HC5 := hid (show InC (boxD wr (clc f vf vm)) wr.heap.size f vf vm from boxD_row _ _)
      have HB5 := hid (HBr.out.trans (hbc.mono HBr.out.size))
      have HX := hid hx
      have hgd := guard28
      have he := fun W => eq28 f.id g HID.out HG.out W
      clear hx hat hcc hbc
      go_upto_region 4 with (first
        | ((with_reducible refine at_op ⟨some 15, _, _, _, _, _⟩ ?_); refine wpList_run rfl _ (load_c rfl rfl HAT.out HLN.out) ?_)
        | ((with_reducible refine at_op ⟨none, .store 38 (.tmp 7) (.tmp 15), _, _, _, _⟩ ?_); refine wpList_store_row rfl 38 _ _ rfl wr.heap.size (clc f vf vm).toArray rfl rfl 38 zC (heap_alloc_new _ _) HIN.out (by show 19 = _; rw [List.size_toArray, HLN.out]) HON.out ?_)
        | fail)
      change Code.wp _ _ _ _ (boxD wr (clc f vf vm))
      obtain ⟨w5, hw5⟩ : ∃ w5, w5 = boxD wr (clc f vf vm) := ⟨_, rfl⟩
      obtain ⟨g5, hg5⟩ : ∃ g, g = wr.heap.size := ⟨_, rfl⟩
      rw [← hw5, ← hg5] at HC5
      rw [← hw5] at HB5 ⊢
      rw [← hg5]
      have H1 := hid (show AtL w5 g5 0 (u8s f.id).toList from HC5.out.cid HID.out)
      have H2 := hid (show AtL w5 (w.heap.size + 1) 0 (u8s g).toList from HI.out.below HB5.out)
      clear hw5 hg5 HAT HLN HIN HON HC5 HBr
      by_cases heq : f.id = g
      · have e1 : (f.id == g) = true := by simpa using heq
        rw [e1] at he
        have hfd : fndP l g = ((q : Int), 0) := by unfold fndP; rw [findC_at HX.out heq HP.out]
        have HFD := hid hfd
        clear heq e1 hfd
        go_wp2_with (first
          | ((with_reducible refine at_op ⟨some 17, _, _, _, _, _⟩ ?_); refine wpList_run rfl _ (load_id rfl rfl H1.out HID.out) ?_)
          | ((with_reducible refine at_op ⟨some 18, _, _, _, _, _⟩ ?_); refine wpList_run rfl _ (load_id rfl rfl H2.out HG.out) ?_)
          | fail)
        go_ret2
        exact ⟨by rw [HFD.out]; rfl, HB1.out.trans (HB5.out.mono HB1.out.size)⟩
      · have e1 : (f.id == g) = false := by simpa using heq
        rw [e1] at he
        have HE := hid heq
        clear heq e1
        go_wp2_with (first
          | ((with_reducible refine at_op ⟨some 17, _, _, _, _, _⟩ ?_); refine wpList_run rfl _ (load_id rfl rfl H1.out HID.out) ?_)
          | ((with_reducible refine at_op ⟨some 18, _, _, _, _, _⟩ ?_); refine wpList_run rfl _ (load_id rfl rfl H2.out HG.out) ?_)
          | fail)
        go_roundw
        case rel =>
          refine ⟨q + 1, by omega, by go_num, hid (fun i f' hi hf' => ?_), HB5⟩
          by_cases hiq : i = q
          · subst hiq
            rw [HX.out] at hf'; cases hf'
            exact HE.out
          · exact HP.out i f' (by omega) hf'
        case measure => simp [intOf]; omega
    · obtain rfl : q = N := by omega
      have hfd : fndP l g = (0, 8) := by
        unfold fndP
        rw [findC_none (fun f hf => by
          obtain ⟨i, hi⟩ := List.mem_iff_getElem?.1 hf
          exact HP.out i f (by have := HN.out; have := (List.getElem?_eq_some_iff.1 hi).1; omega) hi)]
      have HFD := hid hfd
      clear hfd
      go_wp2
      go_ret2
      exact ⟨by rw [HFD.out]; rfl, HB1.out.trans (HBr.out.mono HB1.out.size)⟩
end Go.Proofs.YtgfimkeopohjaaaDoor

namespace Go.Proofs.YtgfimkeopohjaaaDoor
open Go Go.ChangeShapes Go.WideShapes Go.ChangeAt Go.RowKit

theorem check_e (ls : List Ins) (s : Int) : (checkP ls s).2.2 = (heightP ls s).2.2 := by
  unfold checkP
  split <;> simp_all
set_option maxRecDepth 100000 in
set_option maxHeartbeats 4000000 in
theorem CheckClass_any (c : Cls) (vf vm : Value) (w : World) (hT : TabB w) (h : ClC w w.heap.size c vf vm) (hf : c.faces.length ≤ 100000) :
    Calls Tryd.prog 12 #[.agg (clc c vf vm).toArray] w fun e w' => e = .returned (.int .i64 (chkC c)) ∧ Below w.heap.size w w' := by
  obtain ⟨w1, hw1⟩ : ∃ w1, w1 = w.alloc (.cells (clc c vf vm).toArray 38) := ⟨_, rfl⟩
  have hb1 : Below w.heap.size w w1 := by rw [hw1]; exact (Below.refl _ _).alloc (Nat.le_refl _) _
  have hc1 : InC w1 w.heap.size c vf vm := by rw [hw1]; exact heap_alloc_new _ _
  have h1 := h.on hb1
  obtain ⟨af, cf, rfl, hF, hFc, hFm⟩ := h1.f
  obtain ⟨am, cm, rfl, hM, hMc, hMm⟩ := h1.m
  have HCK := hid (FCheck_any w1 af c.faces.length cf c.faces hF rfl hf hFc hFm)
  have HI := hid h1.id
  have HSL := hid h1.slots
  have HC1 := hid hc1
  have HB1 := hid hb1
  have HM := hid hM
  have HW := hid hw1
  have HT := hid (hT.on hb1)
  have c16 := hc1.cf h1.id
  clear hF hM h h1 hw1 hb1 hc1 hT
  obtain ⟨nf, hnf⟩ : ∃ n, n = c.faces.length := ⟨_, rfl⟩
  obtain ⟨nm, hnm⟩ : ∃ n, n = c.methods.length := ⟨_, rfl⟩
  have HNM := hid hnm
  rw [← hnf] at HCK hFc c16 HC1 HW ⊢
  rw [← hnm] at hMc HC1 HW ⊢
  have HCH := hid (show chkC c = if checkL c.faces ≠ 0 then checkL c.faces else if c.slots < 0 ∨ 8 < c.slots then 1 else if nm = 0 ∨ 8 < nm then 20 else mErr c.slots (c.methods.drop 0) by rw [hnm]; rfl)
  clear hnf hnm hf
  obtain ⟨ck, hck⟩ : ∃ x, x = checkL c.faces := ⟨_, rfl⟩
  rw [← hck] at HCK HCH
  obtain ⟨res, hres⟩ : ∃ x, x = chkC c := ⟨_, rfl⟩
  rw [← hres] at HCH ⊢
  clear hck hres
  go_enter Tryd.func12, Tryd.ntmps12
  go_upto_region 1 with (fail)
  change Code.wp _ _ _ _ (w.alloc (.cells (clc c (.slice af nf cf) (.slice am nm cm)).toArray 38))
  rw [← HW.out]
  go_wp2_with fail
  refine HCK.out.mono ?_
  rintro e w2 ⟨rfl, hb2⟩
  have HC2 := hid (HC1.out.on hb2)
  have HM2 := hid (((HM.out.kept (fun b hb => hb2.block b hb))).mono hb2.size)
  have HB2 := hid (HB1.out.trans (hb2.mono HB1.out.size))
  have HZ := hid (show w.heap.size < w2.heap.size by have := hb2.size; have := (Array.getElem?_eq_some_iff.1 HC1.out).1; omega)
  have HT2 := hid (HT.out.on hb2)
  have c17 := HC2.out.cs HI.out
  have c18 := HC2.out.cm HI.out
  clear hb2 c16 HC1 HM HB1 HW HCK HT
  by_cases h0 : ck = 0
  case neg =>
    have d0 : (ck != 0) = true := by simpa using h0
    rw [if_pos h0] at HCH
    clear h0
    go_wp2
    go_ret
    exact ⟨by rw [HCH.out]; rfl, HB2.out⟩
  have d0 : (ck != 0) = false := by simpa using h0
  rw [if_neg (by omega)] at HCH
  clear h0
  obtain ⟨s, hs⟩ : ∃ s, s = c.slots := ⟨_, rfl⟩
  rw [← hs] at HCH c17 HSL
  have HS := hid hs
  clear hs
  by_cases h1 : s < 0
  · have d1 : decide (s < 0) = true := by simpa using h1
    rw [if_pos (.inl h1)] at HCH
    clear h1
    go_wp2
    go_ret
    exact ⟨by rw [HCH.out]; rfl, HB2.out⟩
  have d1 : decide (s < 0) = false := by simpa using h1
  by_cases h2 : 8 < s
  · have d2 : decide (8 < s) = true := by simpa using h2
    rw [if_pos (.inr h2)] at HCH
    clear h1 h2
    go_wp2
    go_ret
    exact ⟨by rw [HCH.out]; rfl, HB2.out⟩
  have d2 : decide (8 < s) = false := by simpa using h2
  rw [if_neg (by omega)] at HCH
  clear h1 h2
  by_cases h3 : nm = 0
  · have d3 : decide ((nm : Int) < 1) = true := by simp; omega
    rw [if_pos (.inl h3)] at HCH
    clear h3
    go_wp2
    go_ret
    exact ⟨by rw [HCH.out]; rfl, HB2.out⟩
  have d3 : decide ((nm : Int) < 1) = false := by simp; omega
  by_cases h4 : 8 < nm
  · have d4 : decide (8 < (nm : Int)) = true := by simp; omega
    rw [if_pos (.inr h4)] at HCH
    clear h3 h4
    go_wp2
    go_ret
    exact ⟨by rw [HCH.out]; rfl, HB2.out⟩
  have d4 : decide (8 < (nm : Int)) = false := by simp; omega
  rw [if_neg (by omega)] at HCH
  have hn8 : nm ≤ 8 := by omega
  obtain ⟨b, o, rfl, _⟩ := HM2.out.at_ (by have := HNM.out; omega)
  clear h3 h4
  go_wp2
  clear d0 d1 d2 d3 d4 c18
  go_loopw [36] (fun iv wr => ∃ q : Nat, q ≤ nm ∧ iv = .int .i64 q ∧ RowKit.Hid (res = mErr s (c.methods.drop q)) ∧ RowKit.Hid (Below w2.heap.size w2 wr)) (fun iv _ => nm - (intOf iv).toNat)
  case atStart => exact ⟨0, by omega, rfl, HCH, hid (Below.refl _ _)⟩
  case round =>
    obtain ⟨q, hq, rfl, HQ, HBr⟩ := hrel
    clear HCH c17
    have c17 := (HC2.out.on HBr.out).cs HI.out
    rw [← HS.out] at c17
    by_cases hqn : q < nm
    · have hx : c.methods[q]? = some (c.methods[q]'(by have := HNM.out; omega)) := List.getElem?_eq_getElem _
      generalize c.methods[q]'(by have := HNM.out; omega) = l at hx
      have hst := mErr_step (s := s) hx
      obtain ⟨v, hv, al, cl, rfl, hl1, hl2, hl3, hl4⟩ := HM2.out.rows b o rfl q l hx
      have cv := (World.cell?_of_block (w := w2) (w' := wr) (a := ⟨b, o + q, none⟩) (HBr.out.block b (World.block_lt_of_cell? w2 _ hv))).trans hv
      have HHT := hid (Check_any l s al l.length cl wr (HT2.out.on HBr.out) hl4 HSL.out ((hl1.kept HBr.out).mono HBr.out.size) rfl hl2 hl3)
      have HST := hid hst
      rw [← check_e] at HST
      obtain ⟨hp, hph⟩ : ∃ x, x = checkP l s := ⟨_, rfl⟩
      rw [← hph] at HHT HST
      obtain ⟨hs1, hat, he⟩ := hp
      simp only at HHT HST
      clear hx hst hv hl1 hl2 hl3 hl4 hph
      go_wp2_with fail
      refine HHT.out.mono ?_
      rintro e w3 ⟨rfl, hb3⟩
      have HB3 := hid (HBr.out.trans (hb3.mono HBr.out.size))
      clear hb3 HHT c17 cv
      by_cases h0 : he = 0
      · have d0 : (he != 0) = false := by simpa using h0
        rw [if_pos h0] at HST
        clear h0
        go_wp2
        go_roundw
        case rel => exact ⟨q + 1, by omega, by go_num, hid (by rw [HQ.out, HST.out]), HB3⟩
        case measure => simp [intOf]; omega
      · have d0 : (he != 0) = true := by simpa using h0
        rw [if_neg h0] at HST
        clear h0
        go_wp2
        go_ret
        exact ⟨by rw [HQ.out, HST.out]; rfl, HB2.out.trans (HB3.out.mono HB2.out.size)⟩
    · obtain rfl : q = nm := by omega
      have hz : res = 0 := by rw [HQ.out, HNM.out, List.drop_length]; rfl
      have HZ0 := hid hz
      clear hz
      go_wp2
      go_ret
      exact ⟨by rw [HZ0.out]; rfl, HB2.out.trans (HBr.out.mono HB2.out.size)⟩
theorem CheckClass_holds (w0 : World) (hT : TabB w0) : CcC w0 := fun c vf vm w hb h hs => CheckClass_any c vf vm w (hT.on hb) h (by have := hs.1; omega)
theorem findC_mem : ∀ {l : List Cls} {c : Cls}, c ∈ l → ∃ q, findC l c.id = some q
  | [], _, h => by cases h
  | a :: l, c, h => by
    unfold findC
    by_cases he : a.id = c.id
    · rw [if_pos he]; exact ⟨0, rfl⟩
    · rw [if_neg he]
      rcases List.mem_cons.1 h with rfl | h
      · exact absurd rfl he
      · obtain ⟨q, hq⟩ := findC_mem h
        rw [hq]; exact ⟨q + 1, rfl⟩
theorem fnd_mem {l : List Cls} {c : Cls} (h : c ∈ l) : (fndP l c.id).1 = rfV (findC l c.id) := by
  obtain ⟨q, hq⟩ := findC_mem h
  unfold fndP
  rw [hq]
  rfl
set_option maxHeartbeats 4000000 in
set_option maxRecDepth 100000 in
theorem CheckM_any (w : World) (hT : TabB w) (ad : Option Addr) (N cap : Nat) (l : List Cls) (hF : RwC w w.heap.size ad l) (hN : N = l.length) (hN2 : N ≤ 100000) (hc : N ≤ cap) (hfc : ∀ c ∈ l, c.faces.length ≤ 100000) :
    Calls Tryd.prog 10 #[.agg #[.slice ad N cap]] w fun e w' => e = .returned (.tuple #[.int .i64 (chkM l).1, .int .i64 (chkM l).2]) ∧ Below w.heap.size w w' := by
  obtain ⟨w1, hw1⟩ : ∃ w1, w1 = w.alloc (.cells #[.slice ad N cap] 24) := ⟨_, rfl⟩
  have hb1 : Below w.heap.size w w1 := by rw [hw1]; exact (Below.refl _ _).alloc (Nat.le_refl _) _
  have hm1 : Boxed w1 w.heap.size 24 (.slice ad N cap) := by rw [hw1]; exact Boxed.new w _ _
  have HF := hid (hF.on hb1)
  have HT := hid (hT.on hb1)
  have HN := hid hN
  have HB1 := hid hb1
  have HM := hid hm1
  have HW := hid hw1
  have HFC := hid hfc
  have cm0 := hm1.cell
  clear hF hN hb1 hm1 hw1 hfc hT
  have HCH := hid (show chkM l = if N = 0 ∨ 8 < N then (0, 20) else chkFrom l 0 (l.drop 0) by rw [HN.out]; rfl)
  obtain ⟨res, hres⟩ : ∃ x, x = chkM l := ⟨_, rfl⟩
  rw [← hres] at HCH ⊢
  obtain ⟨r1, r2⟩ := res
  clear hres
  by_cases h1 : N = 0
  · have d1 : decide ((N : Int) < 1) = true := by simp; omega
    rw [if_pos (.inl h1)] at HCH
    cases HCH.out
    clear h1 HCH
    go_enter Tryd.func10, Tryd.ntmps10
    go_upto_region 1 with (fail)
    change Code.wp _ _ _ _ (w.alloc (.cells #[.slice ad N cap] 24))
    rw [← HW.out]
    go_wp2
    go_ret2
    exact ⟨rfl, HB1.out⟩
  have d1 : decide ((N : Int) < 1) = false := by simp; omega
  by_cases h2 : 8 < N
  · have d2 : decide (8 < (N : Int)) = true := by simp; omega
    rw [if_pos (.inr h2)] at HCH
    cases HCH.out
    clear h1 h2 HCH
    go_enter Tryd.func10, Tryd.ntmps10
    go_upto_region 1 with (fail)
    change Code.wp _ _ _ _ (w.alloc (.cells #[.slice ad N cap] 24))
    rw [← HW.out]
    go_wp2
    go_ret2
    exact ⟨rfl, HB1.out⟩
  have d2 : decide (8 < (N : Int)) = false := by simp; omega
  rw [if_neg (by omega)] at HCH
  have hN8 : N ≤ 8 := by omega
  obtain ⟨b, o, rfl, _⟩ := HF.out.at_ (by have := HN.out; omega)
  clear h1 h2
  go_enter Tryd.func10, Tryd.ntmps10
  go_upto_region 1 with (fail)
  change Code.wp _ _ _ _ (w.alloc (.cells #[.slice (some ⟨b, o, none⟩) N cap] 24))
  rw [← HW.out]
  go_wp2
  clear d1 d2 cm0 HW
  go_loopw [22] (fun p wr => ∃ q : Nat, q ≤ N ∧ p = .int .i64 q ∧ RowKit.Hid ((r1, r2) = chkFrom l q (l.drop q)) ∧ RowKit.Hid (Below w1.heap.size w1 wr)) (fun p _ => N - (intOf p).toNat)
  case atStart => exact ⟨0, by omega, rfl, HCH, hid (Below.refl _ _)⟩
  case round =>
    obtain ⟨q, hq, rfl, HQ, HBr⟩ := hrel
    clear HCH
    by_cases hql : q < N
    · have hx : l[q]? = some (l[q]'(by have := HN.out; omega)) := List.getElem?_eq_getElem (by have := HN.out; omega)
      generalize (l[q]'(by have := HN.out; omega)) = f at hx
      obtain ⟨vf, vm, hat, hcc⟩ := (HF.out.on HBr.out).rows b o rfl q f hx
      have hst := chk_step hx
      have HAT := hid hat
      have HLN := hid (clc_len (vf := vf) (vm := vm) hcc.id)
      have HID := hid hcc.id
      have HIN := hid (show (Tryd.prog.info? 38).map (·.size) = some (clc f vf vm).toArray.size by rw [List.size_toArray, HLN.out]; exact sizeC)
      have HON := hid (show (clc f vf vm).toArray.all (·.oneCell') = true from clc_one (by obtain ⟨a, c, rfl, _⟩ := hcc.f; rfl) (by obtain ⟨a, c, rfl, _⟩ := hcc.m; rfl))
      have hbc := boxD_below wr (clc f vf vm)
      have HC5 := hid (show InC (boxD wr (clc f vf vm)) wr.heap.size f vf vm from boxD_row _ _)
      have HB5 := hid (HBr.out.trans (hbc.mono HBr.out.size))
      have HCK := hid (CheckClass_any f vf vm (boxD wr (clc f vf vm)) (HT.out.on HB5.out) (hcc.on hbc) (HFC.out f (List.mem_of_getElem? hx)))
      have HFD := hid (fun (W : World) (hB : Below w1.heap.size w1 W) => CFind_any W (some ⟨b, o, none⟩) N cap l f.id hcc.id (HF.out.on hB) HN.out hN2 hc)
      have hfm := fnd_mem (List.mem_of_getElem? hx)
      obtain ⟨e0, he0⟩ : ∃ e, e = chkC f := ⟨_, rfl⟩
      obtain ⟨fd, hfd⟩ : ∃ e, e = rfV (findC l f.id) := ⟨_, rfl⟩
      rw [← hfd] at hfm
      rw [hfm] at HFD
      obtain ⟨fe, hfe⟩ : ∃ e, e = (fndP l f.id).2 := ⟨_, rfl⟩
      rw [← hfe] at HFD
      have HST := hid hst
      rw [← he0, ← hfd] at HST
      rw [← he0] at HCK
      clear hx hat hcc hst he0 hfd hbc hfm hfe
      go_upto_region 6 with (first
        | ((with_reducible refine at_op ⟨some 26, _, _, _, _, _⟩ ?_); refine wpList_run rfl _ (load_c rfl rfl HAT.out HLN.out) ?_)
        | ((with_reducible refine at_op ⟨none, .store 38 (.tmp 5) (.tmp 26), _, _, _, _⟩ ?_); refine wpList_store_row rfl 38 _ _ rfl wr.heap.size (clc f vf vm).toArray rfl rfl 38 zC (heap_alloc_new _ _) HIN.out (by show 19 = _; rw [List.size_toArray, HLN.out]) HON.out ?_)
        | fail)
      change Code.wp _ _ _ _ (boxD wr (clc f vf vm))
      obtain ⟨w5, hw5⟩ : ∃ w5, w5 = boxD wr (clc f vf vm) := ⟨_, rfl⟩
      obtain ⟨g5, hg5⟩ : ∃ g, g = wr.heap.size := ⟨_, rfl⟩
      rw [← hw5, ← hg5] at HC5
      rw [← hw5] at HB5 HCK ⊢
      rw [← hg5]
      have HA5 := hid HC5.out.at
      clear hw5 hg5 HAT HIN HON
      go_wp2_with (first
        | ((with_reducible refine at_op ⟨some 27, _, _, _, _, _⟩ ?_); refine wpList_run rfl _ (load_c rfl rfl HA5.out HLN.out) ?_)
        | fail)
      refine HCK.out.mono ?_
      rintro e w3 ⟨rfl, hb3⟩
      have HB3 := hid (HB5.out.trans (hb3.mono HB5.out.size))
      have HC3 := hid (HC5.out.on hb3)
      clear hb3 HCK HC5 HA5
      by_cases h0 : e0 = 0
      case neg =>
        have d0 : (e0 != 0) = true := by simpa using h0
        rw [if_pos h0] at HST
        clear h0
        have hr := HQ.out
        rw [HST.out] at hr
        cases hr
        go_wp2
        go_ret2
        exact ⟨rfl, HB1.out.trans (HB3.out.mono HB1.out.size)⟩
      have d0 : (e0 != 0) = false := by simpa using h0
      rw [if_neg (by omega)] at HST
      clear h0
      have cm3 : w3.cell? ⟨w.heap.size, 0, none⟩ = some (.slice (some ⟨b, o, none⟩) N cap) := Boxed.cell ((HB3.out.block w.heap.size HM.out.lt).trans HM.out)
      have H3 := hid (HC3.out.cid HID.out)
      go_wp2_with (first
        | ((with_reducible refine at_op ⟨some 36, _, _, _, _, _⟩ ?_); refine wpList_run rfl _ (load_id rfl rfl H3.out HID.out) ?_)
        | fail)
      refine (HFD.out _ HB3.out).mono ?_
      rintro e w4 ⟨rfl, hb4⟩
      have HB4 := hid (HB3.out.trans (hb4.mono HB3.out.size))
      clear hb4 HFD cm3
      by_cases h1 : fd < (q : Int)
      · have d1 : decide (fd < (q : Int)) = true := by simpa using h1
        rw [if_pos h1] at HST
        clear h1
        have hr := HQ.out
        rw [HST.out] at hr
        cases hr
        go_wp2
        go_ret2
        exact ⟨rfl, HB1.out.trans (HB4.out.mono HB1.out.size)⟩
      · have d1 : decide (fd < (q : Int)) = false := by simpa using h1
        rw [if_neg h1] at HST
        clear h1
        go_wp2
        go_roundw
        case rel => exact ⟨q + 1, by omega, by go_num, hid (by rw [HQ.out, HST.out]), HB4⟩
        case measure => simp [intOf]; omega
    · obtain rfl : q = N := by omega
      have hr := HQ.out
      rw [HN.out, List.drop_length] at hr
      cases hr
      clear HQ
      go_wp2
      go_ret2
      exact ⟨rfl, HB1.out.trans (HBr.out.mono HB1.out.size)⟩
theorem CheckM_holds (w0 : World) (hT : TabB w0) : ChC w0 := fun l ad N cap w hb h hN hc _ hs => CheckM_any w (hT.on hb) ad N cap l h hN (by have := hs.1; omega) hc fun c hc => by have := (hs.2 c hc).1; omega
end Go.Proofs.YtgfimkeopohjaaaDoor
