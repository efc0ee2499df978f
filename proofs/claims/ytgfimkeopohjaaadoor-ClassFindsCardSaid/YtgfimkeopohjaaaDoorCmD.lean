/- CmK1 CmK2 CmN CmK3 CmP CmK4 CmQ CmD in one -/
import Derived.Test.YtgfimkeopohjaaaDoorCmL
import Derived.Test.YtgfimkeopohjaaaDoorCmM
import Derived.Recover
namespace Go.Proofs.YtgfimkeopohjaaaDoor
open Go Go.ChangeShapes Go.WideShapes Go.ChangeAt Go.RowKit

theorem kIns : Kind 3 ZIns := ⟨fun h _ _ => h, fun h _ => h, fun h => by rw [h.1]; rfl⟩
abbrev zVIns : Value := .agg #[.int .i64 0, .int .i64 0, .int .i64 0]
set_option maxRecDepth 100000 in
set_option maxHeartbeats 2000000 in
theorem listIns_any (w : World) (rb : Nat) (r : List Int) (most : Nat) (h : Rd w rb r) :
    Calls Tryd.prog 68 #[.pointer (some ⟨rb, 0, none⟩), .int .i64 (most : Int), .func (.func 69) #[] #[]] w (RdP w rb r (rdL (most : Int) rdI) (ZL 3 ZIns)) := by
  have hlt := h.lt
  have HBY := hid h.by_
  have HR0 := hid h
  clear h
  go_enter Tryd.func68, Tryd.ntmps68
  go_wp2_with fail
  refine (number_any w rb r HR0.out).mono ?_
  rintro e w1 ⟨hf, he⟩
  cases r with
  | nil =>
    subst he
    exact ⟨rfl, RdP.no hf rfl⟩
  | cons n0 r =>
  obtain ⟨rfl, hR⟩ := he
  have hx := HBY.out n0 (by simp)
  obtain ⟨n, rfl⟩ : ∃ n : Nat, n0 = n := ⟨n0.toNat, by omega⟩
  have hn : n ≤ 255 := by omega
  have HF1 := hid hf
  have HR1 := hid hR
  have hz1 := hf.size
  have HRD := hid (show rdL (most : Int) rdI ((n : Int) :: r) = if (most : Int) < (n : Int) then none else rdN rdI n r from rfl)
  clear hf hR HR0 hx HBY
  by_cases hmn : (most : Int) < (n : Int)
  · have d1 : decide ((most : Int) < (n : Int)) = true := decide_eq_true hmn
    have hmn2 : most < n := by omega
    rw [if_pos hmn] at HRD
    clear hmn
    go_wp2_with fail
    refine (giveUp_any _).mono ?_
    rintro e _ ⟨rfl, rfl⟩
    exact ⟨rfl, RdP.no HF1.out HRD.out⟩
  have d1 : decide ((most : Int) < (n : Int)) = false := decide_eq_false hmn
  rw [if_neg hmn] at HRD
  have hmn2 : ¬ most < n := by omega
  clear hmn
  have hfil := fil_new (Z := ZIns) (k := 3) (n := n) (w := w) (W := w1) (e := 61) _ (made_size zVIns (n * 3)) hz1
  have hb2 : Below w1.heap.size w1 (w1.alloc (.cells (madeCells (zVIns).cells (n * 3)) 61)) := (Below.refl _ _).alloc (Nat.le_refl _) _
  go_upto_region 5 with (first
    | ((with_reducible refine at_op ⟨some 17, _, _, _, _, _⟩ ?_); refine wpList_runN rfl _ _ (exec_makeL (k := 3) (n := n) (z := zVIns) Tryd.underlying56 infoIn hn (by decide) rfl rfl) ?_)
    | fail)
  change Code.wp _ _ _ _ (w1.alloc (.cells (madeCells (zVIns).cells (n * 3)) 61))
  obtain ⟨w2, hw2⟩ : ∃ x, x = w1.alloc (.cells (madeCells (zVIns).cells (n * 3)) 61) := ⟨_, rfl⟩
  rw [← hw2] at hfil hb2 ⊢
  obtain ⟨g, hg⟩ : ∃ g, g = w1.heap.size := ⟨_, rfl⟩
  rw [← hg] at hfil ⊢
  have HFI := hid hfil
  have HR2 := hid (HR1.out.on hb2)
  have HF2 := hid (frb HF1.out hb2)
  clear hfil hb2 hw2 hg HR1 HF1 d1 hz1
  go_wp2
  go_loopw [20] (fun p wr => ∃ (q : Nat) (l : List Ins) (r' : List Int), q ≤ n ∧ p = .int .i64 q ∧ RowKit.Hid (rdN rdI q r = some (l, r')) ∧ RowKit.Hid (l.length = q) ∧ RowKit.Hid (Fil 3 ZIns w.heap.size g n wr l) ∧ RowKit.Hid (Rd wr rb r') ∧ RowKit.Hid (Fr (fun j => j = rb) w wr)) (fun p _ => n - (intOf p).toNat)
  case atStart => exact ⟨0, [], r, by omega, rfl, hid rfl, hid rfl, HFI, HR2, HF2⟩
  case round =>
    obtain ⟨q, l, r', hq, rfl, HQ, HL, HFQ, HRQ, HFr⟩ := hrel
    clear HFI HR2 HF2
    by_cases hqn : q < n
    · go_wp2_with fail
      refine (readInstr_any wr rb r' HRQ.out).mono ?_
      rintro e w5 ⟨hf, he⟩
      have HF5 := hid (frt HFr.out hf)
      cases hrd : rdI r' with
      | none =>
        rw [hrd] at he
        subst he
        have hnone : rdN rdI n r = none := by
          have h1 : rdN rdI (q + 1) r = none := by
            unfold rdN
            rw [HQ.out]
            simp only [hrd]
          rw [show n = (q + 1) + (n - (q + 1)) by omega]
          exact rdN_none h1 _
        exact ⟨rfl, RdP.no HF5.out (by rw [HRD.out, hnone])⟩
      | some px =>
      obtain ⟨x, r2⟩ := px
      rw [hrd] at he
      obtain ⟨v, rfl, hz, hR⟩ := he
      have HQ2 := hid (show rdN rdI (q + 1) r = some (l ++ [x], r2) by
        unfold rdN
        rw [HQ.out]
        simp only [hrd])
      have hfk := HFQ.out.fr kIns hf (by omega)
      have hz2 : ZIns (fun b => w.heap.size ≤ b ∧ b < w5.heap.size ∧ b ≠ g) w5 x v := kIns.mono hz fun b hb => ⟨by have := HFr.out.size; omega, hb.2, by have := HFQ.out.lt; omega⟩
      have hput := hfk.put kIns hz2 (by rw [HL.out]; exact hqn)
      rw [HL.out] at hput
      have hth : w5.there g (q * 3) 3 := fun j hj => by
        have := hfk.th (q * 3 + j) (by omega)
        simpa using this
      have hfrp : Fr (fun j => j = g) w5 (w5.setCells g (q * 3) v.cells.toList) := fr_cells (fp := fun j => j = g) (fun _ => rfl) _ _ _ (Fr.refl (fun j => j = g) w5)
      have HGE := hid HFQ.out.ge
      have HFP := hid (HF5.out.trans hfrp (fun j hj hlt => by have := HGE.out; omega))
      have HRP := hid (hR.fr hfrp (fun j hj hjg => by have := HGE.out; omega))
      have HL2 := hid (show (l ++ [x]).length = q + 1 by rw [List.length_append, HL.out]; rfl)
      have HPUT := hid hput
      obtain ⟨rfl, _⟩ := hz2
      have HTH := hid hth
      clear hth
      clear hf hz hR hrd hfk hput HQ HL HFQ HRQ HFr HF5 hfrp HGE
      go_wp2_with (first
        | ((with_reducible refine at_op ⟨none, .store 61 (.tmp 28) (.tmp 27), _, _, _, _⟩ ?_); refine wpList_store_mid rfl 61 _ _ rfl g (q * 3) (insA x) rfl rfl HTH.out (sizeIns x) (oneIns x) ?_)
        | fail)
      go_roundw
      case rel => exact ⟨q + 1, l ++ [x], r2, by omega, by go_num, HQ2, HL2, HPUT, HRP, HFP⟩
      case measure => simp [intOf]; omega
    · obtain rfl : q = n := by omega
      have HZL := hid (show ZL 3 ZIns (fun b => w.heap.size ≤ b ∧ b < wr.heap.size) wr l (.slice (some ⟨g, 0, none⟩) q q) from ⟨w.heap.size, g, by rw [HL.out], by rw [HL.out]; exact HFQ.out, fun b h1 h2 => ⟨h1, h2⟩, by rw [HL.out]; exact hn⟩)
      have HFin := hid (show RdP w rb ((q : Int) :: r) (rdL (most : Int) rdI) (ZL 3 ZIns) (.returned (.slice (some ⟨g, 0, none⟩) q q)) wr from RdP.yes HFr.out (by rw [HRD.out, HQ.out]) HZL.out HRQ.out)
      clear HQ HL HFQ HRQ HFr HZL
      go_wp2
      go_ret
      exact HFin.out
end Go.Proofs.YtgfimkeopohjaaaDoor

namespace Go.Proofs.YtgfimkeopohjaaaDoor
open Go Go.ChangeShapes Go.WideShapes Go.ChangeAt Go.RowKit

theorem kFac : Kind 17 ZFac := ⟨fun h _ _ => h, fun h _ => h, fun h => by
  rw [h.1]
  show (fcl _).toArray.size = 17
  rw [List.size_toArray, fcl_len h.2.1]⟩
abbrev zVFac : Value := .agg (fcl ⟨List.replicate 16 0, 0⟩).toArray
set_option maxRecDepth 100000 in
set_option maxHeartbeats 2000000 in
theorem listFac_any (w : World) (rb : Nat) (r : List Int) (most : Nat) (h : Rd w rb r) :
    Calls Tryd.prog 60 #[.pointer (some ⟨rb, 0, none⟩), .int .i64 (most : Int), .func (.func 61) #[] #[]] w (RdP w rb r (rdL (most : Int) rdF) (ZL 17 ZFac)) := by
  have hlt := h.lt
  have HBY := hid h.by_
  have HR0 := hid h
  clear h
  go_enter Tryd.func60, Tryd.ntmps60
  go_wp2_with fail
  refine (number_any w rb r HR0.out).mono ?_
  rintro e w1 ⟨hf, he⟩
  cases r with
  | nil =>
    subst he
    exact ⟨rfl, RdP.no hf rfl⟩
  | cons n0 r =>
  obtain ⟨rfl, hR⟩ := he
  have hx := HBY.out n0 (by simp)
  obtain ⟨n, rfl⟩ : ∃ n : Nat, n0 = n := ⟨n0.toNat, by omega⟩
  have hn : n ≤ 255 := by omega
  have HF1 := hid hf
  have HR1 := hid hR
  have hz1 := hf.size
  have HRD := hid (show rdL (most : Int) rdF ((n : Int) :: r) = if (most : Int) < (n : Int) then none else rdN rdF n r from rfl)
  clear hf hR HR0 hx HBY
  by_cases hmn : (most : Int) < (n : Int)
  · have d1 : decide ((most : Int) < (n : Int)) = true := decide_eq_true hmn
    have hmn2 : most < n := by omega
    rw [if_pos hmn] at HRD
    clear hmn
    go_wp2_with fail
    refine (giveUp_any _).mono ?_
    rintro e _ ⟨rfl, rfl⟩
    exact ⟨rfl, RdP.no HF1.out HRD.out⟩
  have d1 : decide ((most : Int) < (n : Int)) = false := decide_eq_false hmn
  rw [if_neg hmn] at HRD
  have hmn2 : ¬ most < n := by omega
  clear hmn
  have hfil := fil_new (Z := ZFac) (k := 17) (n := n) (w := w) (W := w1) (e := 74) _ (made_size zVFac (n * 17)) hz1
  have hb2 : Below w1.heap.size w1 (w1.alloc (.cells (madeCells (zVFac).cells (n * 17)) 74)) := (Below.refl _ _).alloc (Nat.le_refl _) _
  go_upto_region 5 with (first
    | ((with_reducible refine at_op ⟨some 17, _, _, _, _, _⟩ ?_); refine wpList_runN rfl _ _ (exec_makeL (k := 17) (n := n) (z := zVFac) Tryd.underlying35 infoFace hn (by decide) rfl rfl) ?_)
    | fail)
  change Code.wp _ _ _ _ (w1.alloc (.cells (madeCells (zVFac).cells (n * 17)) 74))
  obtain ⟨w2, hw2⟩ : ∃ x, x = w1.alloc (.cells (madeCells (zVFac).cells (n * 17)) 74) := ⟨_, rfl⟩
  rw [← hw2] at hfil hb2 ⊢
  obtain ⟨g, hg⟩ : ∃ g, g = w1.heap.size := ⟨_, rfl⟩
  rw [← hg] at hfil ⊢
  have HFI := hid hfil
  have HR2 := hid (HR1.out.on hb2)
  have HF2 := hid (frb HF1.out hb2)
  clear hfil hb2 hw2 hg HR1 HF1 d1 hz1
  go_wp2
  go_loopw [20] (fun p wr => ∃ (q : Nat) (l : List Face) (r' : List Int), q ≤ n ∧ p = .int .i64 q ∧ RowKit.Hid (rdN rdF q r = some (l, r')) ∧ RowKit.Hid (l.length = q) ∧ RowKit.Hid (Fil 17 ZFac w.heap.size g n wr l) ∧ RowKit.Hid (Rd wr rb r') ∧ RowKit.Hid (Fr (fun j => j = rb) w wr)) (fun p _ => n - (intOf p).toNat)
  case atStart => exact ⟨0, [], r, by omega, rfl, hid rfl, hid rfl, HFI, HR2, HF2⟩
  case round =>
    obtain ⟨q, l, r', hq, rfl, HQ, HL, HFQ, HRQ, HFr⟩ := hrel
    clear HFI HR2 HF2
    by_cases hqn : q < n
    · go_wp2_with fail
      refine (readFace_any wr rb r' HRQ.out).mono ?_
      rintro e w5 ⟨hf, he⟩
      have HF5 := hid (frt HFr.out hf)
      cases hrd : rdF r' with
      | none =>
        rw [hrd] at he
        subst he
        have hnone : rdN rdF n r = none := by
          have h1 : rdN rdF (q + 1) r = none := by
            unfold rdN
            rw [HQ.out]
            simp only [hrd]
          rw [show n = (q + 1) + (n - (q + 1)) by omega]
          exact rdN_none h1 _
        exact ⟨rfl, RdP.no HF5.out (by rw [HRD.out, hnone])⟩
      | some px =>
      obtain ⟨x, r2⟩ := px
      rw [hrd] at he
      obtain ⟨v, rfl, hz, hR⟩ := he
      have HQ2 := hid (show rdN rdF (q + 1) r = some (l ++ [x], r2) by
        unfold rdN
        rw [HQ.out]
        simp only [hrd])
      have hfk := HFQ.out.fr kFac hf (by omega)
      have hz2 : ZFac (fun b => w.heap.size ≤ b ∧ b < w5.heap.size ∧ b ≠ g) w5 x v := kFac.mono hz fun b hb => ⟨by have := HFr.out.size; omega, hb.2, by have := HFQ.out.lt; omega⟩
      have hput := hfk.put kFac hz2 (by rw [HL.out]; exact hqn)
      rw [HL.out] at hput
      have hth : w5.there g (q * 17) 17 := fun j hj => by
        have := hfk.th (q * 17 + j) (by omega)
        simpa using this
      have hfrp : Fr (fun j => j = g) w5 (w5.setCells g (q * 17) v.cells.toList) := fr_cells (fp := fun j => j = g) (fun _ => rfl) _ _ _ (Fr.refl (fun j => j = g) w5)
      have HGE := hid HFQ.out.ge
      have HFP := hid (HF5.out.trans hfrp (fun j hj hlt => by have := HGE.out; omega))
      have HRP := hid (hR.fr hfrp (fun j hj hjg => by have := HGE.out; omega))
      have HL2 := hid (show (l ++ [x]).length = q + 1 by rw [List.length_append, HL.out]; rfl)
      have HPUT := hid hput
      obtain ⟨rfl, hfl, _⟩ := hz2
      have HTH := hid (show w5.there g (q * 17) (fcl x).toArray.size by rw [List.size_toArray, fcl_len hfl]; exact hth)
      have HSZ := hid (sizeFac hfl)
      clear hth hfl
      clear hf hz hR hrd hfk hput HQ HL HFQ HRQ HFr HF5 hfrp HGE
      go_wp2_with (first
        | ((with_reducible refine at_op ⟨none, .store 74 (.tmp 28) (.tmp 27), _, _, _, _⟩ ?_); refine wpList_store_mid rfl 74 _ _ rfl g (q * 17) (fcl x).toArray rfl rfl HTH.out HSZ.out (oneFac x) ?_)
        | fail)
      go_roundw
      case rel => exact ⟨q + 1, l ++ [x], r2, by omega, by go_num, HQ2, HL2, HPUT, HRP, HFP⟩
      case measure => simp [intOf]; omega
    · obtain rfl : q = n := by omega
      have HZL := hid (show ZL 17 ZFac (fun b => w.heap.size ≤ b ∧ b < wr.heap.size) wr l (.slice (some ⟨g, 0, none⟩) q q) from ⟨w.heap.size, g, by rw [HL.out], by rw [HL.out]; exact HFQ.out, fun b h1 h2 => ⟨h1, h2⟩, by rw [HL.out]; exact hn⟩)
      have HFin := hid (show RdP w rb ((q : Int) :: r) (rdL (most : Int) rdF) (ZL 17 ZFac) (.returned (.slice (some ⟨g, 0, none⟩) q q)) wr from RdP.yes HFr.out (by rw [HRD.out, HQ.out]) HZL.out HRQ.out)
      clear HQ HL HFQ HRQ HFr HZL
      go_wp2
      go_ret
      exact HFin.out
end Go.Proofs.YtgfimkeopohjaaaDoor

namespace Go.Proofs.YtgfimkeopohjaaaDoor
open Go Go.ChangeShapes Go.WideShapes Go.ChangeAt Go.RowKit

theorem cellsI (x : Ins) : (Value.agg (insA x)).cells.toList = insc x := rfl
theorem cellsF (f : Face) : (Value.agg (fcl f).toArray).cells.toList = fcl f := rfl
theorem ZL.zi {S : Nat → Prop} {W : World} {l : List Ins} {v : Value} (h : ZL 3 ZIns S W l v) : ZI S W v l := by
  obtain ⟨base, g, rfl, hF, hS, hl⟩ := h
  refine ⟨⟨some ⟨g, 0, none⟩, l.length, rfl, ⟨fun _ => ⟨g, 0, rfl, hF.lt⟩, fun b o he i x hx => ?_⟩, Nat.le_refl _, by omega, fun x hx => ?_⟩, fun b hb => ?_⟩
  · cases he
    obtain ⟨u, h1, rfl, _⟩ := hF.el i x hx
    rw [cellsI] at h1
    rw [Nat.zero_add]
    exact h1
  · obtain ⟨i, hi⟩ := List.mem_iff_getElem?.1 hx
    obtain ⟨u, _, _, h2⟩ := hF.el i x hi
    exact h2
  · cases hb
    exact hS g hF.ge hF.lt
theorem ZL.zf {S : Nat → Prop} {W : World} {l : List Face} {v : Value} (h : ZL 17 ZFac S W l v) : ZF S W v l := by
  obtain ⟨base, g, rfl, hF, hS, hl⟩ := h
  have hm : ∀ x ∈ l, x.id.length = 16 ∧ I64 x.base := fun x hx => by
    obtain ⟨i, hi⟩ := List.mem_iff_getElem?.1 hx
    obtain ⟨u, _, _, h2⟩ := hF.el i x hi
    exact h2
  refine ⟨⟨some ⟨g, 0, none⟩, l.length, rfl, ⟨fun _ => ⟨g, 0, rfl, hF.lt⟩, fun b o he i x hx => ?_, fun x hx => (hm x hx).1, fun x hx => (hm x hx).2⟩, Nat.le_refl _, by omega⟩, fun b hb => ?_⟩
  · cases he
    obtain ⟨u, h1, rfl, _⟩ := hF.el i x hx
    rw [cellsF] at h1
    rw [Nat.zero_add]
    exact h1
  · cases hb
    exact hS g hF.ge hF.lt
def ZMet (S : Nat → Prop) (W : World) (l : List Ins) (v : Value) : Prop := ZI S W v l
set_option maxRecDepth 100000 in
theorem readMethod_any (w : World) (rb : Nat) (r : List Int) (h : Rd w rb r) :
    Calls Tryd.prog 63 #[.pointer (some ⟨rb, 0, none⟩)] w (RdP w rb r rdM ZMet) := by
  have HC := hid (listIns_any w rb r 32 h)
  clear h
  go_enter Tryd.func63, Tryd.ntmps63
  go_wp2_with fail
  refine HC.out.mono ?_
  rintro e w2 he
  obtain ⟨hf, he | ⟨l, r2, v, hrd, rfl, hz, hR⟩⟩ := he.open
  · obtain ⟨hrd, rfl⟩ := he
    exact ⟨rfl, RdP.no hf hrd⟩
  · have HP := hid (RdP.yes (Z := ZMet) (rd := rdM) hf hrd hz.zi hR)
    obtain ⟨_, g, rfl, _⟩ := hz
    clear hf hrd hR HC
    go_wp2
    go_ret
    exact HP.out
end Go.Proofs.YtgfimkeopohjaaaDoor

namespace Go.Proofs.YtgfimkeopohjaaaDoor
open Go Go.ChangeShapes Go.WideShapes Go.ChangeAt Go.RowKit

theorem kMet : Kind 1 ZMet := ⟨fun h h1 h2 => h.kept h1 h2, fun h h1 => h.mono h1, fun h => by
  obtain ⟨⟨a, c, rfl, _⟩, _⟩ := h
  rfl⟩
set_option maxRecDepth 100000 in
set_option maxHeartbeats 2000000 in
theorem listMet_any (w : World) (rb : Nat) (r : List Int) (most : Nat) (h : Rd w rb r) :
    Calls Tryd.prog 62 #[.pointer (some ⟨rb, 0, none⟩), .int .i64 (most : Int), .func (.func 63) #[] #[]] w (RdP w rb r (rdL (most : Int) rdM) (ZL 1 ZMet)) := by
  have hlt := h.lt
  have HBY := hid h.by_
  have HR0 := hid h
  clear h
  go_enter Tryd.func62, Tryd.ntmps62
  go_wp2_with fail
  refine (number_any w rb r HR0.out).mono ?_
  rintro e w1 ⟨hf, he⟩
  cases r with
  | nil =>
    subst he
    exact ⟨rfl, RdP.no hf rfl⟩
  | cons n0 r =>
  obtain ⟨rfl, hR⟩ := he
  have hx := HBY.out n0 (by simp)
  obtain ⟨n, rfl⟩ : ∃ n : Nat, n0 = n := ⟨n0.toNat, by omega⟩
  have hn : n ≤ 255 := by omega
  have HF1 := hid hf
  have HR1 := hid hR
  have hz1 := hf.size
  have HRD := hid (show rdL (most : Int) rdM ((n : Int) :: r) = if (most : Int) < (n : Int) then none else rdN rdM n r from rfl)
  clear hf hR HR0 hx HBY
  by_cases hmn : (most : Int) < (n : Int)
  · have d1 : decide ((most : Int) < (n : Int)) = true := decide_eq_true hmn
    have hmn2 : most < n := by omega
    rw [if_pos hmn] at HRD
    clear hmn
    go_wp2_with fail
    refine (giveUp_any _).mono ?_
    rintro e _ ⟨rfl, rfl⟩
    exact ⟨rfl, RdP.no HF1.out HRD.out⟩
  have d1 : decide ((most : Int) < (n : Int)) = false := decide_eq_false hmn
  rw [if_neg hmn] at HRD
  have hmn2 : ¬ most < n := by omega
  clear hmn
  have hfil := fil_new (Z := ZMet) (k := 1) (n := n) (w := w) (W := w1) (e := 56) _ (made_size nilV (n * 1)) hz1
  have hb2 : Below w1.heap.size w1 (w1.alloc (.cells (madeCells (nilV).cells (n * 1)) 56)) := (Below.refl _ _).alloc (Nat.le_refl _) _
  go_upto_region 5 with (first
    | ((with_reducible refine at_op ⟨some 17, _, _, _, _, _⟩ ?_); refine wpList_runN rfl _ _ (exec_makeL (k := 1) (n := n) (z := nilV) Tryd.underlying36 infoInss hn (by decide) rfl rfl) ?_)
    | fail)
  rw [show madeCells #[nilV] n = madeCells (nilV).cells (n * 1) by rw [Nat.mul_one]; rfl]
  change Code.wp _ _ _ _ (w1.alloc (.cells (madeCells (nilV).cells (n * 1)) 56))
  obtain ⟨w2, hw2⟩ : ∃ x, x = w1.alloc (.cells (madeCells (nilV).cells (n * 1)) 56) := ⟨_, rfl⟩
  rw [← hw2] at hfil hb2 ⊢
  obtain ⟨g, hg⟩ : ∃ g, g = w1.heap.size := ⟨_, rfl⟩
  rw [← hg] at hfil ⊢
  have HFI := hid hfil
  have HR2 := hid (HR1.out.on hb2)
  have HF2 := hid (frb HF1.out hb2)
  clear hfil hb2 hw2 hg HR1 HF1 d1 hz1
  go_wp2
  go_loopw [20] (fun p wr => ∃ (q : Nat) (l : List (List Ins)) (r' : List Int), q ≤ n ∧ p = .int .i64 q ∧ RowKit.Hid (rdN rdM q r = some (l, r')) ∧ RowKit.Hid (l.length = q) ∧ RowKit.Hid (Fil 1 ZMet w.heap.size g n wr l) ∧ RowKit.Hid (Rd wr rb r') ∧ RowKit.Hid (Fr (fun j => j = rb) w wr)) (fun p _ => n - (intOf p).toNat)
  case atStart => exact ⟨0, [], r, by omega, rfl, hid rfl, hid rfl, HFI, HR2, HF2⟩
  case round =>
    obtain ⟨q, l, r', hq, rfl, HQ, HL, HFQ, HRQ, HFr⟩ := hrel
    clear HFI HR2 HF2
    by_cases hqn : q < n
    · go_wp2_with fail
      refine (readMethod_any wr rb r' HRQ.out).mono ?_
      rintro e w5 ⟨hf, he⟩
      have HF5 := hid (frt HFr.out hf)
      cases hrd : rdM r' with
      | none =>
        rw [hrd] at he
        subst he
        have hnone : rdN rdM n r = none := by
          have h1 : rdN rdM (q + 1) r = none := by
            unfold rdN
            rw [HQ.out]
            simp only [hrd]
          rw [show n = (q + 1) + (n - (q + 1)) by omega]
          exact rdN_none h1 _
        exact ⟨rfl, RdP.no HF5.out (by rw [HRD.out, hnone])⟩
      | some px =>
      obtain ⟨x, r2⟩ := px
      rw [hrd] at he
      obtain ⟨v, rfl, hz, hR⟩ := he
      have HQ2 := hid (show rdN rdM (q + 1) r = some (l ++ [x], r2) by
        unfold rdN
        rw [HQ.out]
        simp only [hrd])
      have hfk := HFQ.out.fr kMet hf (by omega)
      have hz2 : ZMet (fun b => w.heap.size ≤ b ∧ b < w5.heap.size ∧ b ≠ g) w5 x v := kMet.mono hz fun b hb => ⟨by have := HFr.out.size; omega, hb.2, by have := HFQ.out.lt; omega⟩
      have hput := hfk.put kMet hz2 (by rw [HL.out]; exact hqn)
      rw [HL.out] at hput
      have hth : w5.there g (q * 1) 1 := fun j hj => by
        have := hfk.th (q * 1 + j) (by omega)
        simpa using this
      have hfrp : Fr (fun j => j = g) w5 (w5.setCells g (q * 1) v.cells.toList) := fr_cells (fp := fun j => j = g) (fun _ => rfl) _ _ _ (Fr.refl (fun j => j = g) w5)
      have HGE := hid HFQ.out.ge
      have HFP := hid (HF5.out.trans hfrp (fun j hj hlt => by have := HGE.out; omega))
      have HRP := hid (hR.fr hfrp (fun j hj hjg => by have := HGE.out; omega))
      have HL2 := hid (show (l ++ [x]).length = q + 1 by rw [List.length_append, HL.out]; rfl)
      have HPUT := hid hput
      obtain ⟨⟨a5, c5, rfl, _⟩, _⟩ := hz2
      obtain ⟨u5, c0⟩ := Option.isSome_iff_exists.1 (hth 0 (by omega)).1
      have f0 := (hth 0 (by omega)).2
      rw [Nat.mul_one, Nat.add_zero] at c0 f0
      have HPUT : RowKit.Hid (Fil 1 ZMet w.heap.size g n (w5.setCell ⟨g, q, none⟩ (.slice a5 x.length c5)) (l ++ [x])) := hid (by have := HPUT.out; rw [Nat.mul_one] at this; exact this)
      have HFP : RowKit.Hid (Fr (fun j => j = rb) w (w5.setCell ⟨g, q, none⟩ (.slice a5 x.length c5))) := hid (by have := HFP.out; rw [Nat.mul_one] at this; exact this)
      have HRP : RowKit.Hid (Rd (w5.setCell ⟨g, q, none⟩ (.slice a5 x.length c5)) rb r2) := hid (by have := HRP.out; rw [Nat.mul_one] at this; exact this)
      clear hth
      clear hf hz hR hrd hfk hput HQ HL HFQ HRQ HFr HF5 hfrp HGE
      go_wp2
      go_roundw
      case rel => exact ⟨q + 1, l ++ [x], r2, by omega, by go_num, HQ2, HL2, HPUT, HRP, HFP⟩
      case measure => simp [intOf]; omega
    · obtain rfl : q = n := by omega
      have HZL := hid (show ZL 1 ZMet (fun b => w.heap.size ≤ b ∧ b < wr.heap.size) wr l (.slice (some ⟨g, 0, none⟩) q q) from ⟨w.heap.size, g, by rw [HL.out], by rw [HL.out]; exact HFQ.out, fun b h1 h2 => ⟨h1, h2⟩, by rw [HL.out]; exact hn⟩)
      have HFin := hid (show RdP w rb ((q : Int) :: r) (rdL (most : Int) rdM) (ZL 1 ZMet) (.returned (.slice (some ⟨g, 0, none⟩) q q)) wr from RdP.yes HFr.out (by rw [HRD.out, HQ.out]) HZL.out HRQ.out)
      clear HQ HL HFQ HRQ HFr HZL
      go_wp2
      go_ret
      exact HFin.out
end Go.Proofs.YtgfimkeopohjaaaDoor

namespace Go.Proofs.YtgfimkeopohjaaaDoor
open Go Go.ChangeShapes Go.WideShapes Go.ChangeAt Go.RowKit

theorem ZL.zm {S : Nat → Prop} {W : World} {ms : List (List Ins)} {v : Value} (h : ZL 1 ZMet S W ms v) : ZM S W v ms := by
  obtain ⟨base, g, rfl, hF, hS, hl⟩ := h
  refine ⟨⟨some ⟨g, 0, none⟩, ms.length, rfl, ⟨fun _ => ⟨g, 0, rfl, hF.lt⟩, fun b o he i l hx => ?_⟩, Nat.le_refl _, by omega⟩, fun b hb => ?_⟩
  · cases he
    obtain ⟨u, h1, h2⟩ := hF.el i l hx
    have h3 : ZI S W u l := ZI.mono h2 fun b hb => hS b hb.1 hb.2.1
    refine ⟨u, ?_, h3⟩
    obtain ⟨⟨a, c, rfl, _⟩, _⟩ := h2
    have h4 := h1 0 (.slice a l.length c) rfl
    rw [Nat.zero_add]
    simpa using h4
  · cases hb
    exact hS g hF.ge hF.lt
def ZCls (S : Nat → Prop) (W : World) (c : Cls) (v : Value) : Prop := ∃ vf vm, v = .agg (clc c vf vm).toArray ∧ ZC S W c vf vm
set_option maxRecDepth 100000 in
/-- A class built of its fields. -/
theorem exec_build4 {o : Oper} {f : Operand → Value} {W : World} {p0 p1 p2 p3 : Operand} {g : List Int} {af am : Option Addr} {nf kf nm km : Nat} {s : Int} (ho : o.op = .build 38 #[(0, p0), (1, p1), (2, p2), (3, p3)]) (h0 : f p0 = .agg (u8s g)) (h1 : f p1 = .slice af nf kf) (h2 : f p2 = .int .i64 s) (h3 : f p3 = .slice am nm km) (hg : g.length = 16) :
    (execOp f o).run Tryd.prog W = .ok (.value (.agg (clc ⟨g, [], s, []⟩ (.slice af nf kf) (.slice am nm km)).toArray)) W := by
  obtain ⟨a0, a1, a2, a3, a4, a5, a6, a7, a8, a9, a10, a11, a12, a13, a14, a15, rfl⟩ := list16c g hg
  unfold execOp
  simp only [ho]
  simp only [List.map_toArray, List.map_cons, List.map_nil, h0, h1, h2, h3, u8s]
  go_simp
  rfl
theorem zC_size {c : Cls} {vf vm : Value} (h : c.id.length = 16) : zC.size = (clc c vf vm).toArray.size := by
  have e : zC.size = 19 := by rfl
  rw [e, List.size_toArray, clc_len h]
set_option maxRecDepth 100000 in
set_option maxHeartbeats 2000000 in
theorem readClass_any (w : World) (rb : Nat) (r : List Int) (h : Rd w rb r) :
    Calls Tryd.prog 50 #[.pointer (some ⟨rb, 0, none⟩)] w (RdP w rb r rdC ZCls) := by
  obtain ⟨w1, hw1⟩ : ∃ w1, w1 = w.alloc (.cells zC 38) := ⟨_, rfl⟩
  have hb1 : Below w.heap.size w w1 := by rw [hw1]; exact (Below.refl _ _).alloc (Nat.le_refl _) _
  have hg1 : w1.heap[w.heap.size]? = some (.cells zC 38 (0, 0)) := by rw [hw1]; exact heap_alloc_new _ _
  have HR1 := hid (h.on hb1)
  have HF1 := hid (frb (Fr.refl (fun j => j = rb) w) hb1)
  have HG1 := hid hg1
  have HW := hid hw1
  have hlt := h.lt
  have hne : w.heap.size ≠ rb := by omega
  clear h hb1 hg1 hw1
  go_enter Tryd.func50, Tryd.ntmps50
  go_upto_region 1 with (fail)
  change Code.wp _ _ _ _ (w.alloc (.cells zC 38))
  rw [← HW.out]
  clear HW
  go_wp2_with fail
  refine (id_any w1 rb r HR1.out).mono ?_
  rintro e w2 ⟨hf, he⟩
  have HF2 := hid (frt HF1.out hf)
  have HG2 := hid (keepB hf HG1.out hne)
  clear hf HR1 HF1 HG1
  by_cases hl : r.length < 16
  · rw [if_pos hl] at he
    subst he
    exact ⟨rfl, RdP.no HF2.out (by unfold rdC; rw [if_pos hl])⟩
  rw [if_neg hl] at he
  obtain ⟨rfl, hR⟩ := he
  have HR2 := hid hR
  have hli : (r.take 16).length = 16 := by simp; omega
  have hrd : ∀ q, (rdL 16 rdF (r.drop 16) = none → q = none) → (∀ fs, rdL 16 rdF (r.drop 16) = some (fs, []) → q = none) → (∀ fs s r2, rdL 16 rdF (r.drop 16) = some (fs, s :: r2) → rdL 8 rdM r2 = none → q = none) →
      (∀ fs s r2 ms r3, rdL 16 rdF (r.drop 16) = some (fs, s :: r2) → rdL 8 rdM r2 = some (ms, r3) → q = some (⟨r.take 16, fs, s, ms⟩, r3)) → rdC r = q := by
    intro q q1 q2 q3 q4
    unfold rdC
    rw [if_neg hl]
    cases h1 : rdL 16 rdF (r.drop 16) with
    | none => exact (q1 h1).symm
    | some p =>
      obtain ⟨fs, r1⟩ := p
      cases r1 with
      | nil => exact (q2 fs h1).symm
      | cons s r2 =>
        simp only
        cases h2 : rdL 8 rdM r2 with
        | none => exact (q3 fs s r2 h1 h2).symm
        | some p2 =>
          obtain ⟨ms, r3⟩ := p2
          exact (q4 fs s r2 ms r3 h1 h2).symm
  obtain ⟨g, hg⟩ : ∃ g, g = r.take 16 := ⟨_, rfl⟩
  obtain ⟨r1, hr1⟩ : ∃ g, g = r.drop 16 := ⟨_, rfl⟩
  rw [← hg] at hrd hli ⊢
  rw [← hr1] at hrd HR2
  have HRD := hid hrd
  have HLI := hid hli
  clear hR hrd hli hl hg hr1
  go_wp2_with fail
  refine (listFac_any w2 rb r1 16 HR2.out).mono ?_
  rintro e w3 he
  obtain ⟨hf, he | ⟨fs, r2, vf, h1, rfl, hz, hR⟩⟩ := he.open
  · obtain ⟨h1, rfl⟩ := he
    have h1 : rdL 16 rdF r1 = none := h1
    exact ⟨rfl, RdP.no (frt HF2.out hf) (HRD.out _ (fun _ => rfl) (fun _ _ => rfl) (fun _ _ _ _ _ => rfl) (fun fs s r2 ms r3 h => by rw [h1] at h; cases h))⟩
  have h1 : rdL 16 rdF r1 = some (fs, r2) := h1
  have HF3 := hid (frt HF2.out hf)
  have HG3 := hid (keepB hf HG2.out hne)
  have HR3 := hid hR
  have HZF := hid (hz.zf)
  have HB3 := hid (show w.heap.size ≤ w2.heap.size from HF2.out.size)
  have hlt3 : w.heap.size < w2.heap.size := lt_of_heap HG2.out
  have H1 := hid h1
  have hsz3 := hf.size
  obtain ⟨_, gf, rfl, _⟩ := hz
  clear hf HF2 HG2 hR h1 HR2
  go_wp2_with fail
  refine (number_any w3 rb r2 HR3.out).mono ?_
  rintro e w4 ⟨hf, he⟩
  have HF4 := hid (frt HF3.out hf)
  have HG4 := hid (keepB hf HG3.out hne)
  have HZF4 := hid (HZF.out.kept (W' := w4) (fun b hb => hf.block b hb.2 (by have := hb.1; omega)) hf.size)
  have hsz4 := hf.size
  clear hf HF3 HG3 HZF
  cases r2 with
  | nil =>
    subst he
    exact ⟨rfl, RdP.no HF4.out (HRD.out _ (fun _ => rfl) (fun _ _ => rfl) (fun _ _ _ _ _ => rfl) (fun fs s r2 ms r3 h => by rw [H1.out] at h; cases h))⟩
  | cons s r2 =>
  obtain ⟨rfl, hR⟩ := he
  have hs := HR3.out.by_ s (by simp)
  have HR4 := hid hR
  have HSL := hid (show J64 s by simp only [J64]; omega)
  clear hR HR3 hs
  go_wp2_with fail
  refine (listMet_any w4 rb r2 8 HR4.out).mono ?_
  rintro e w5 he
  obtain ⟨hf, he | ⟨ms, r3, vm, h2, rfl, hz, hR⟩⟩ := he.open
  · obtain ⟨h2, rfl⟩ := he
    have h2 : rdL 8 rdM r2 = none := h2
    exact ⟨rfl, RdP.no (frt HF4.out hf) (HRD.out _ (fun _ => rfl) (fun _ _ => rfl) (fun _ _ _ _ _ => rfl) (fun fs s r2 ms r3 h h' => by rw [H1.out] at h; cases h; rw [h2] at h'; cases h'))⟩
  have h2 : rdL 8 rdM r2 = some (ms, r3) := h2
  have HFI := hid (show rdC r = some (⟨g, fs, s, ms⟩, r3) from HRD.out _ (fun h => by rw [H1.out] at h; cases h) (fun fs h => by rw [H1.out] at h; cases h) (fun fs s r2 h h' => by rw [H1.out] at h; cases h; rw [h2] at h'; cases h') (fun fs s r2 ms r3 h h' => by rw [H1.out] at h; cases h; rw [h2] at h'; cases h'; rfl))
  have HF5 := hid (frt HF4.out hf)
  have HG5 := hid (keepB hf HG4.out hne)
  have HR5 := hid hR
  have HZM := hid (hz.zm)
  have HZF5 := hid (HZF4.out.kept (W' := w5) (fun b hb => hf.block b (by have := hb.2; omega) (by have := hb.1; omega)) hf.size)
  have hsz5 := hf.size
  obtain ⟨_, gm, rfl, _⟩ := hz
  obtain ⟨vf, hvf⟩ : ∃ v, v = Value.slice (some ⟨gf, 0, none⟩) fs.length fs.length := ⟨_, rfl⟩
  obtain ⟨vm, hvm⟩ : ∃ v, v = Value.slice (some ⟨gm, 0, none⟩) ms.length ms.length := ⟨_, rfl⟩
  have HOC := hid (show (clc ⟨g, [], s, []⟩ vf vm).toArray.all (·.oneCell') = true from clc_one (by rw [hvf]; rfl) (by rw [hvm]; rfl))
  rw [← hvf] at HZF5
  rw [← hvm] at HZM
  clear hf HF4 HG4 hR h2 HR4 HZF4 HRD H1
  obtain ⟨cc, hcc⟩ : ∃ c : Cls, c = ⟨g, fs, s, ms⟩ := ⟨_, rfl⟩
  have HCL := hid (show clc ⟨g, [], s, []⟩ vf vm = clc cc vf vm by rw [hcc]; rfl)
  have HI := hid (show cc.id.length = 16 by rw [hcc]; exact HLI.out)
  have HCC := hid (show cc.faces = fs ∧ cc.methods = ms ∧ cc.slots = s by rw [hcc]; exact ⟨rfl, rfl, rfl⟩)
  rw [← hcc] at HFI
  clear hcc
  go_wp2_with (first
    | ((with_reducible refine at_op ⟨some 11, _, _, _, _, _⟩ ?_); refine wpList_runW rfl (.agg (clc cc vf vm).toArray) (by rw [← HCL.out, hvf, hvm]; exact exec_build4 rfl rfl rfl rfl rfl HLI.out) ?_)
    | ((with_reducible refine at_op ⟨none, .store 38 (.tmp 2) (.tmp 11), _, _, _, _⟩ ?_); refine wpList_store_row rfl 38 _ _ rfl w.heap.size (clc cc vf vm).toArray rfl rfl 38 zC HG5.out (by rw [List.size_toArray, clc_len HI.out]; exact sizeC) (zC_size HI.out) (by rw [← HCL.out]; exact HOC.out) ?_)
    | fail)
  have hz : (w5.setRow w.heap.size (clc cc vf vm).toArray).heap[w.heap.size]? = some (.cells (clc cc vf vm).toArray 38 (0, 0)) := setRow_heap _ _ _ _ _ _ HG5.out
  have hr : Fr (fun j => j = w.heap.size) w5 (w5.setRow w.heap.size (clc cc vf vm).toArray) := fr_row (Fr.refl _ _) _ _ (fun _ => rfl)
  refine bodyPost_ret (v := .agg (clc cc vf vm).toArray) ?_ rfl ?_
  · rw [results_cell1 (fn := Tryd.f50) rfl]
    simp only [Act.put]
    have hl := run_loadVar_row (P := Tryd.prog) _ w.heap.size 38 38 (clc cc vf vm).toArray (0, 0) _ hz Tryd.underlying38 rfl (by rw [List.size_toArray, clc_len HI.out]; exact sizeC)
    simp [asAddr, hl, Result.andThen]
  · have hrs := hr.size
    refine RdP.yes (HF5.out.trans hr (fun j hj hlt => by omega)) HFI.out ⟨vf, vm, rfl, ?_, ?_, HI.out, by rw [HCC.out.2.2]; exact HSL.out⟩ (HR5.out.fr hr (by omega))
    · rw [HCC.out.1]
      exact (HZF5.out.kept (fun b hb => hr.block b (by have := hb.2; omega) (by have := hb.1; omega)) hrs).mono fun b hb => ⟨by have := hb.1; omega, by have := hb.2; omega⟩
    · rw [HCC.out.2.1]
      exact (HZM.out.kept (fun b hb => hr.block b (by have := hb.2; omega) (by have := hb.1; omega)) hrs).mono fun b hb => ⟨by have := hb.1; omega, by have := hb.2; omega⟩
end Go.Proofs.YtgfimkeopohjaaaDoor

namespace Go.Proofs.YtgfimkeopohjaaaDoor
open Go Go.ChangeShapes Go.WideShapes Go.ChangeAt Go.RowKit

theorem kCls : Kind 19 ZCls := ⟨fun h h1 h2 => by obtain ⟨vf, vm, e, h⟩ := h; exact ⟨vf, vm, e, h.kept h1 h2⟩, fun h h1 => by obtain ⟨vf, vm, e, h⟩ := h; exact ⟨vf, vm, e, h.mono h1⟩, fun h => by
  obtain ⟨vf, vm, rfl, h⟩ := h
  show (clc _ _ _).toArray.size = 19
  rw [List.size_toArray, clc_len h.id]⟩
abbrev zVCls : Value := .agg (clc ⟨List.replicate 16 0, [], 0, []⟩ nilV nilV).toArray
set_option maxRecDepth 100000 in
set_option maxHeartbeats 2000000 in
theorem listCls_any (w : World) (rb : Nat) (r : List Int) (most : Nat) (h : Rd w rb r) :
    Calls Tryd.prog 49 #[.pointer (some ⟨rb, 0, none⟩), .int .i64 (most : Int), .func (.func 50) #[] #[]] w (RdP w rb r (rdL (most : Int) rdC) (ZL 19 ZCls)) := by
  have hlt := h.lt
  have HBY := hid h.by_
  have HR0 := hid h
  clear h
  go_enter Tryd.func49, Tryd.ntmps49
  go_wp2_with fail
  refine (number_any w rb r HR0.out).mono ?_
  rintro e w1 ⟨hf, he⟩
  cases r with
  | nil =>
    subst he
    exact ⟨rfl, RdP.no hf rfl⟩
  | cons n0 r =>
  obtain ⟨rfl, hR⟩ := he
  have hx := HBY.out n0 (by simp)
  obtain ⟨n, rfl⟩ : ∃ n : Nat, n0 = n := ⟨n0.toNat, by omega⟩
  have hn : n ≤ 255 := by omega
  have HF1 := hid hf
  have HR1 := hid hR
  have hz1 := hf.size
  have HRD := hid (show rdL (most : Int) rdC ((n : Int) :: r) = if (most : Int) < (n : Int) then none else rdN rdC n r from rfl)
  clear hf hR HR0 hx HBY
  by_cases hmn : (most : Int) < (n : Int)
  · have d1 : decide ((most : Int) < (n : Int)) = true := decide_eq_true hmn
    have hmn2 : most < n := by omega
    rw [if_pos hmn] at HRD
    clear hmn
    go_wp2_with fail
    refine (giveUp_any _).mono ?_
    rintro e _ ⟨rfl, rfl⟩
    exact ⟨rfl, RdP.no HF1.out HRD.out⟩
  have d1 : decide ((most : Int) < (n : Int)) = false := decide_eq_false hmn
  rw [if_neg hmn] at HRD
  have hmn2 : ¬ most < n := by omega
  clear hmn
  have hfil := fil_new (Z := ZCls) (k := 19) (n := n) (w := w) (W := w1) (e := 38) _ (made_size zVCls (n * 19)) hz1
  have hb2 : Below w1.heap.size w1 (w1.alloc (.cells (madeCells (zVCls).cells (n * 19)) 38)) := (Below.refl _ _).alloc (Nat.le_refl _) _
  go_upto_region 5 with (first
    | ((with_reducible refine at_op ⟨some 17, _, _, _, _, _⟩ ?_); refine wpList_runN rfl _ _ (exec_makeL (k := 19) (n := n) (z := zVCls) Tryd.underlying22 infoCls hn (by decide) rfl rfl) ?_)
    | fail)
  change Code.wp _ _ _ _ (w1.alloc (.cells (madeCells (zVCls).cells (n * 19)) 38))
  obtain ⟨w2, hw2⟩ : ∃ x, x = w1.alloc (.cells (madeCells (zVCls).cells (n * 19)) 38) := ⟨_, rfl⟩
  rw [← hw2] at hfil hb2 ⊢
  obtain ⟨g, hg⟩ : ∃ g, g = w1.heap.size := ⟨_, rfl⟩
  rw [← hg] at hfil ⊢
  have HFI := hid hfil
  have HR2 := hid (HR1.out.on hb2)
  have HF2 := hid (frb HF1.out hb2)
  clear hfil hb2 hw2 hg HR1 HF1 d1 hz1
  go_wp2
  go_loopw [20] (fun p wr => ∃ (q : Nat) (l : List Cls) (r' : List Int), q ≤ n ∧ p = .int .i64 q ∧ RowKit.Hid (rdN rdC q r = some (l, r')) ∧ RowKit.Hid (l.length = q) ∧ RowKit.Hid (Fil 19 ZCls w.heap.size g n wr l) ∧ RowKit.Hid (Rd wr rb r') ∧ RowKit.Hid (Fr (fun j => j = rb) w wr)) (fun p _ => n - (intOf p).toNat)
  case atStart => exact ⟨0, [], r, by omega, rfl, hid rfl, hid rfl, HFI, HR2, HF2⟩
  case round =>
    obtain ⟨q, l, r', hq, rfl, HQ, HL, HFQ, HRQ, HFr⟩ := hrel
    clear HFI HR2 HF2
    by_cases hqn : q < n
    · go_wp2_with fail
      refine (readClass_any wr rb r' HRQ.out).mono ?_
      rintro e w5 ⟨hf, he⟩
      have HF5 := hid (frt HFr.out hf)
      cases hrd : rdC r' with
      | none =>
        rw [hrd] at he
        subst he
        have hnone : rdN rdC n r = none := by
          have h1 : rdN rdC (q + 1) r = none := by
            unfold rdN
            rw [HQ.out]
            simp only [hrd]
          rw [show n = (q + 1) + (n - (q + 1)) by omega]
          exact rdN_none h1 _
        exact ⟨rfl, RdP.no HF5.out (by rw [HRD.out, hnone])⟩
      | some px =>
      obtain ⟨x, r2⟩ := px
      rw [hrd] at he
      obtain ⟨v, rfl, hz, hR⟩ := he
      have HQ2 := hid (show rdN rdC (q + 1) r = some (l ++ [x], r2) by
        unfold rdN
        rw [HQ.out]
        simp only [hrd])
      have hfk := HFQ.out.fr kCls hf (by omega)
      have hz2 : ZCls (fun b => w.heap.size ≤ b ∧ b < w5.heap.size ∧ b ≠ g) w5 x v := kCls.mono hz fun b hb => ⟨by have := HFr.out.size; omega, hb.2, by have := HFQ.out.lt; omega⟩
      have hput := hfk.put kCls hz2 (by rw [HL.out]; exact hqn)
      rw [HL.out] at hput
      have hth : w5.there g (q * 19) 19 := fun j hj => by
        have := hfk.th (q * 19 + j) (by omega)
        simpa using this
      have hfrp : Fr (fun j => j = g) w5 (w5.setCells g (q * 19) v.cells.toList) := fr_cells (fp := fun j => j = g) (fun _ => rfl) _ _ _ (Fr.refl (fun j => j = g) w5)
      have HGE := hid HFQ.out.ge
      have HFP := hid (HF5.out.trans hfrp (fun j hj hlt => by have := HGE.out; omega))
      have HRP := hid (hR.fr hfrp (fun j hj hjg => by have := HGE.out; omega))
      have HL2 := hid (show (l ++ [x]).length = q + 1 by rw [List.length_append, HL.out]; rfl)
      have HPUT := hid hput
      obtain ⟨vf, vm, rfl, hzc⟩ := hz2
      have HTH := hid (show w5.there g (q * 19) (clc x vf vm).toArray.size by rw [List.size_toArray, clc_len hzc.id]; exact hth)
      have HSZ := hid (show (Tryd.prog.info? 38).map (·.size) = some (clc x vf vm).toArray.size by rw [List.size_toArray, clc_len hzc.id]; exact sizeC)
      have HON := hid (show (clc x vf vm).toArray.all (·.oneCell') = true from clc_one (by obtain ⟨⟨a, c, rfl, _⟩, _⟩ := hzc.f; rfl) (by obtain ⟨⟨a, c, rfl, _⟩, _⟩ := hzc.m; rfl))
      clear hth hzc
      clear hf hz hR hrd hfk hput HQ HL HFQ HRQ HFr HF5 hfrp HGE
      go_wp2_with (first
        | ((with_reducible refine at_op ⟨none, .store 38 (.tmp 28) (.tmp 27), _, _, _, _⟩ ?_); refine wpList_store_mid rfl 38 _ _ rfl g (q * 19) (clc x vf vm).toArray rfl rfl HTH.out HSZ.out HON.out ?_)
        | fail)
      go_roundw
      case rel => exact ⟨q + 1, l ++ [x], r2, by omega, by go_num, HQ2, HL2, HPUT, HRP, HFP⟩
      case measure => simp [intOf]; omega
    · obtain rfl : q = n := by omega
      have HZL := hid (show ZL 19 ZCls (fun b => w.heap.size ≤ b ∧ b < wr.heap.size) wr l (.slice (some ⟨g, 0, none⟩) q q) from ⟨w.heap.size, g, by rw [HL.out], by rw [HL.out]; exact HFQ.out, fun b h1 h2 => ⟨h1, h2⟩, by rw [HL.out]; exact hn⟩)
      have HFin := hid (show RdP w rb ((q : Int) :: r) (rdL (most : Int) rdC) (ZL 19 ZCls) (.returned (.slice (some ⟨g, 0, none⟩) q q)) wr from RdP.yes HFr.out (by rw [HRD.out, HQ.out]) HZL.out HRQ.out)
      clear HQ HL HFQ HRQ HFr HZL
      go_wp2
      go_ret
      exact HFin.out
end Go.Proofs.YtgfimkeopohjaaaDoor

namespace Go.Proofs.YtgfimkeopohjaaaDoor
open Go Go.ChangeShapes Go.WideShapes Go.ChangeAt Go.RowKit

/-- Classes in a row, in a set of blocks that stay. -/
def ZSC (S : Nat → Prop) (W : World) (l : List Cls) (v : Value) : Prop :=
  ∃ g, v = .slice (some ⟨g, 0, none⟩) l.length l.length ∧ S g ∧ g < W.heap.size ∧ l.length ≤ 255 ∧ ∀ (i : Nat) c, l[i]? = some c → ∃ vf vm, AtL W g (i * 19) (clc c vf vm) ∧ ZC S W c vf vm
theorem ZSC.kept {S : Nat → Prop} {W W' : World} {l : List Cls} {v : Value} (h : ZSC S W l v) (hS : ∀ b, S b → W'.heap[b]? = W.heap[b]?) (hz : W.heap.size ≤ W'.heap.size) : ZSC S W' l v := by
  obtain ⟨g, h1, h2, h3, h4, h5⟩ := h
  refine ⟨g, h1, h2, by omega, h4, fun i c hc => ?_⟩
  obtain ⟨vf, vm, h6, h7⟩ := h5 i c hc
  exact ⟨vf, vm, fun j u hu => (World.cell?_of_block (w := W) (w' := W') (a := ⟨g, i * 19 + j, none⟩) (hS g h2)).trans (h6 j u hu), h7.kept hS hz⟩
theorem ZSC.mono {S S' : Nat → Prop} {W : World} {l : List Cls} {v : Value} (h : ZSC S W l v) (hs : ∀ b, S b → S' b) : ZSC S' W l v := by
  obtain ⟨g, h1, h2, h3, h4, h5⟩ := h
  refine ⟨g, h1, hs g h2, h3, h4, fun i c hc => ?_⟩
  obtain ⟨vf, vm, h6, h7⟩ := h5 i c hc
  exact ⟨vf, vm, h6, h7.mono hs⟩
theorem ZSC.rw {S : Nat → Prop} {W : World} {l : List Cls} {v : Value} (h : ZSC S W l v) : ∃ g, v = .slice (some ⟨g, 0, none⟩) l.length l.length ∧ RwC W W.heap.size (some ⟨g, 0, none⟩) l := by
  obtain ⟨g, h1, h2, h3, h4, h5⟩ := h
  refine ⟨g, h1, ⟨fun _ => ⟨g, 0, rfl, h3⟩, fun b o he i c hc => ?_⟩⟩
  cases he
  obtain ⟨vf, vm, h6, h7⟩ := h5 i c hc
  exact ⟨vf, vm, by rw [Nat.zero_add]; exact h6, h7.cl⟩
theorem ZL.zs {S : Nat → Prop} {W : World} {l : List Cls} {v : Value} (h : ZL 19 ZCls S W l v) : ZSC S W l v := by
  obtain ⟨base, g, rfl, hF, hS, hl⟩ := h
  refine ⟨g, rfl, hS g hF.ge hF.lt, hF.lt, hl, fun i c hc => ?_⟩
  obtain ⟨u, h1, vf, vm, rfl, h2⟩ := hF.el i c hc
  exact ⟨vf, vm, h1, h2.mono fun b hb => hS b hb.1 hb.2.1⟩
def ZMod (S : Nat → Prop) (W : World) (l : List Cls) (v : Value) : Prop := ∃ u, v = .agg #[u] ∧ ZSC S W l u
set_option maxRecDepth 100000 in
set_option maxHeartbeats 1000000 in
theorem readModule_any (w : World) (rb : Nat) (r : List Int) (h : Rd w rb r) :
    Calls Tryd.prog 37 #[.pointer (some ⟨rb, 0, none⟩)] w (RdP w rb r rdMod ZMod) := by
  obtain ⟨w1, hw1⟩ : ∃ w1, w1 = w.alloc (.cells #[nilV] 24) := ⟨_, rfl⟩
  have hb1 : Below w.heap.size w w1 := by rw [hw1]; exact (Below.refl _ _).alloc (Nat.le_refl _) _
  have hg1 : Boxed w1 w.heap.size 24 nilV := by rw [hw1]; exact Boxed.new w _ _
  have HR1 := hid (h.on hb1)
  have HF1 := hid (frb (Fr.refl (fun j => j = rb) w) hb1)
  have HG1 := hid hg1
  have HW := hid hw1
  have hlt := h.lt
  have hne : w.heap.size ≠ rb := by omega
  clear h hb1 hg1 hw1
  go_enter Tryd.func37, Tryd.ntmps37
  go_upto_region 1 with (fail)
  change Code.wp _ _ _ _ (w.alloc (.cells #[nilV] 24))
  rw [← HW.out]
  clear HW
  go_wp2_with fail
  refine (listCls_any w1 rb r 8 HR1.out).mono ?_
  rintro e w2 he
  obtain ⟨hf, he | ⟨l, r2, v, h1, rfl, hz, hR⟩⟩ := he.open
  · obtain ⟨h1, rfl⟩ := he
    exact ⟨rfl, RdP.no (frt HF1.out hf) h1⟩
  have h1 : rdMod r = some (l, r2) := h1
  have hg2 : Boxed w2 w.heap.size 24 nilV := keepB hf HG1.out hne
  have HRD := hid h1
  have HF2 := hid (frt HF1.out hf)
  have HG2 := hid hg2
  have HR2 := hid hR
  have HZ := hid (hz.zs.mono (S' := fun b => w.heap.size + 1 ≤ b ∧ b < w2.heap.size) fun b hb => ⟨by have := hb.1; have := lt_of_heap HG1.out; omega, hb.2⟩)
  have c0 := hg2.cell
  have f0 := hg2.frozen
  obtain ⟨g, hv, _⟩ := hz.zs
  subst hv
  clear hf HR1 HF1 HG1 hR hz h1 hg2
  go_wp2
  have hg3 : Boxed (w2.setCell ⟨w.heap.size, 0, none⟩ (.slice (some ⟨g, 0, none⟩) l.length l.length)) w.heap.size 24 (.slice (some ⟨g, 0, none⟩) l.length l.length) := HG2.out.set _
  have hr : Fr (fun j => j = w.heap.size) w2 (w2.setCell ⟨w.heap.size, 0, none⟩ (.slice (some ⟨g, 0, none⟩) l.length l.length)) := (Fr.refl _ _).setCell _ _ (fun _ => rfl)
  refine bodyPost_ret (v := .agg #[.slice (some ⟨g, 0, none⟩) l.length l.length]) ?_ rfl ?_
  · rw [results_cell1 (fn := Tryd.f37) rfl]
    dsimp only
    have hl := run_loadVar_row (P := Tryd.prog) _ w.heap.size 24 24 #[.slice (some ⟨g, 0, none⟩) l.length l.length] (0, 0) _ hg3 Tryd.underlying24 rfl (by kernel_rfl)
    simp [asAddr, hl, Result.andThen]
  · refine RdP.yes (HF2.out.trans hr (fun j hj hlt => by omega)) HRD.out ⟨_, rfl, ?_⟩ (HR2.out.fr hr (by omega))
    exact (HZ.out.kept (fun b hb => hr.block b hb.2 (by have := hb.1; omega)) hr.size).mono fun b hb => ⟨by have := hb.1; omega, by have := hb.2; have := hr.size; omega⟩
def EndP (w : World) (r : List Int) (e : Ending) (w' : World) : Prop := w' = w ∧ match r with
  | [] => e = .returned (.tuple #[])
  | _ :: _ => e = gaveUp
set_option maxRecDepth 100000 in
theorem end_any (w : World) (rb : Nat) (r : List Int) (a : Option Addr) (c : Nat) (hbx : Boxed w rb 82 (.slice a r.length c)) :
    Calls Tryd.prog 38 #[.pointer (some ⟨rb, 0, none⟩)] w (EndP w r) := by
  have c0 := hbx.cell
  clear hbx
  cases r with
  | nil =>
    have d1 : decide ((0 : Int) < (([] : List Int).length : Int)) = false := by simp
    go_enter Tryd.func38, Tryd.ntmps38
    go_wp2
    go_end0
    exact ⟨rfl, rfl⟩
  | cons x r =>
    have d1 : 0 < (x :: r).length := by simp
    obtain ⟨n, hn⟩ : ∃ n, n = (x :: r).length := ⟨_, rfl⟩
    rw [← hn] at c0 d1
    go_enter Tryd.func38, Tryd.ntmps38
    go_wp2_with fail
    refine (giveUp_any _).mono ?_
    rintro e _ ⟨rfl, rfl⟩
    exact ⟨rfl, rfl, rfl⟩
end Go.Proofs.YtgfimkeopohjaaaDoor

namespace Go.Proofs.YtgfimkeopohjaaaDoor
open Go Go.ChangeShapes Go.WideShapes Go.ChangeAt Go.RowKit

set_option maxRecDepth 100000 in
theorem tmps36 (p q : Addr) : (#[Value.pointer (some p), Value.pointer (some q)] ++ Array.replicate (Tryd.f36.ntmps - #[Value.pointer (some p), Value.pointer (some q)].size) undef : Array Value) =
    #[.pointer (some p), .pointer (some q), undef, undef, undef, undef, undef, undef, undef, undef, undef, undef, undef, undef, undef, undef, undef] := rfl
set_option maxRecDepth 100000 in
theorem assert36 (W : World) : (Instr.typeAssert (.iface 79 (.agg #[])) 20 79 true).run Tryd.prog W = .ok (.tuple #[.agg #[], .bool true]) W := by kernel_rfl
set_option maxRecDepth 100000 in
set_option maxHeartbeats 4000000 in
theorem catch_idle (p q : Addr) (w : World) :
    CallsD Tryd.prog 36 #[.pointer (some p), .pointer (some q)] .returning w fun e u' w' => e = .returned (.tuple #[]) ∧ u' = .returning ∧ w' = w := by
  refine callsD_of_wpS Tryd.func36 rfl fun c₀ cs hu => ?_
  rw [tmps36]
  apply wpS_seq
  apply wpS_region
  simp [wpOpsS, go_sem, recoverD, hu, Exit.thenS]
  refine wpS_of_wp ?_
  go_wp2
  cases c₀
  simp_all [bodyPostS, results, Tryd.results36]
/-- The world behind a reader that gave up. -/
def caughtW (w : World) (p q : Nat) : World := (((w.alloc (.cells #[] 79)).setCell ⟨p, 0, none⟩ nilV).setCell ⟨q, 0, none⟩ (.int .i64 5))
set_option maxRecDepth 100000 in
set_option maxHeartbeats 4000000 in
theorem catch_up (p q : Nat) (hpq : p ≠ q) (u v : Value) (older : List PanicEntry) (w : World) (hp : Boxed w p 24 u) (hq : Boxed w q 27 v) :
    CallsD Tryd.prog 36 #[.pointer (some ⟨p, 0, none⟩), .pointer (some ⟨q, 0, none⟩)] (.panicking ({ v := .iface 79 (.agg #[]), recovered := false } :: older)) w fun e u' w' =>
      e = .returned (.tuple #[]) ∧ u' = .panicking ({ v := .iface 79 (.agg #[]), recovered := true } :: older) ∧ w' = caughtW w p q := by
  have hta := assert36
  obtain ⟨w2, hw2⟩ : ∃ w2, w2 = w.alloc (.cells #[] 79) := ⟨_, rfl⟩
  have hp2 : Boxed w2 p 24 u := by rw [hw2]; exact hp.alloc _
  have hq2 : Boxed w2 q 27 v := by rw [hw2]; exact hq.alloc _
  have cp := hp2.cell
  have fp := hp2.frozen
  have cq := hq2.cell
  have fq := hq2.frozen
  have HW := hid hw2
  clear hp hq hp2 hq2 hw2
  refine callsD_of_wpS Tryd.func36 rfl fun c₀ cs hu => ?_
  rw [tmps36]
  apply wpS_seq
  apply wpS_region
  simp [wpOpsS, go_sem, recoverD, hu, Exit.thenS]
  refine wpS_of_wp ?_
  go_upto_region 3 with (fail)
  change Code.wp _ _ _ _ (w.alloc (.cells #[] 79))
  rw [← HW.out]
  go_wp2
  have he : caughtW w p q = (w2.setCell ⟨p, 0, none⟩ nilV).setCell ⟨q, 0, none⟩ (.int .i64 5) := by rw [HW.out]; rfl
  simp [bodyPostS, results, Tryd.results36, he]
end Go.Proofs.YtgfimkeopohjaaaDoor
