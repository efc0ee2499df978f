/-
  The laws of layer 10: ClassFinds.
-/
import Derived.Test.YtgfimkeopohjaaaDoorClL
import Derived.Test.YtgfimkeopohjaaaDoorCmC
import Derived.Test.YtgfimkeopohjaaaDoorCmM
import Derived.Test.YtgfimkeopohjaaaDoorClT
namespace Go.Proofs.YtgfimkeopohjaaaDoor
open Go Go.ChangeShapes Go.WideShapes Go.ChangeAt Go.RowKit

/-- The first k operations are one more. -/
def OpC (g : Nat) (ls : List Ins) (k : Nat) (W : World) : Prop := ∀ (i : Nat) x, ls[i]? = some x → W.cell? ⟨g, i * 3, none⟩ = some (.int .i64 (if i < k then IntKind.i64.wrap (x.op + 1) else x.op)) ∧ W.frozen? ⟨g, i * 3, none⟩ = false
theorem OpC.on {g k : Nat} {ls : List Ins} {W W' : World} (h : OpC g ls k W) (hB : Below W.heap.size W W') : OpC g ls k W' := fun i x hx => by
  obtain ⟨h1, h2⟩ := h i x hx
  have hb := hB.block g (World.block_lt_of_cell? W _ h1)
  refine ⟨(World.cell?_of_block (w := W) (w' := W') (a := ⟨g, i * 3, none⟩) hb).trans h1, ?_⟩
  unfold World.frozen? at h2 ⊢
  rw [show W'.heap[(⟨g, i * 3, none⟩ : Addr).block]? = W.heap[(⟨g, i * 3, none⟩ : Addr).block]? from hb]
  exact h2
theorem OpC.put {g k : Nat} {ls : List Ins} {W : World} {x : Ins} (h : OpC g ls k W) (hx : ls[k]? = some x) : OpC g ls (k + 1) (W.setCell ⟨g, k * 3, none⟩ (.int .i64 (IntKind.i64.wrap (x.op + 1)))) := fun i z hz => by
  obtain ⟨h1, h2⟩ := h i z hz
  refine ⟨?_, by rw [World.frozen?_setCell]; exact h2⟩
  by_cases he : i = k
  · subst he
    rw [hx] at hz; cases hz
    rw [World.cell?_setCell_same _ _ _ h1, if_pos (by omega)]
  · rw [World.cell?_setCell_other _ _ _ _ (by intro h; simp only [Addr.mk.injEq] at h; omega), h1]
    by_cases hik : i < k
    · rw [if_pos hik, if_pos (by omega)]
    · rw [if_neg hik, if_neg (by omega)]
/-- Told instructions, in new memory. -/
theorem row_ops {w W : World} {ls : List Ins} {v : Value} (h : RowI w ls v W) : ∃ a c, v = .slice a ls.length c ∧ ls.length ≤ c ∧ c ≤ 9223372036854775807 ∧ RwI W W.heap.size a ls ∧ (0 < ls.length → ∃ g, a = some ⟨g, 0, none⟩ ∧ w.heap.size ≤ g ∧ g < W.heap.size ∧ OpC g ls 0 W) := by
  obtain ⟨a, c, rfl, h1, h2, h3, h4⟩ := own_cases h.1
  refine ⟨a, c, rfl, h1, h2, ⟨fun hl => ?_, fun b o he i x hx => ?_⟩, fun hl => ?_⟩
  · obtain ⟨g, h5, h6⟩ := h3 hl
    exact ⟨g, 0, h5, h6⟩
  · subst he
    exact own_item (insc_k ls) h.1 rfl hx
  · obtain ⟨g, rfl, h6⟩ := h3 hl
    obtain ⟨_, h7, _⟩ := h4 g 0 rfl
    refine ⟨g, rfl, h7, h6, fun i x hx => ?_⟩
    have h8 := own_item (insc_k ls) h.1 rfl hx 0 (.int .i64 x.op) rfl
    rw [if_neg (by omega)]
    refine ⟨by simpa using h8, ?_⟩
    rcases h.1.2 with ⟨q1, _⟩ | ⟨g', cap, cur, q1, _, q3, _⟩
    · cases q1
    · cases q1
      simp [World.frozen?, q3]
theorem wrap_ne (z : Int) : (z == IntKind.i64.wrap (z + 1)) = false := by
  have h2 : z ≠ IntKind.i64.wrap (z + 1) := by
    rw [IntKind.wrap_i64]
    omega
  simpa using h2
theorem find_some {l : List Cls} {g : List Int} : ∀ {q : Nat}, findC l g = some q → q < l.length := by
  induction l with
  | nil => intro q h; cases h
  | cons a l ih =>
    intro q h
    unfold findC at h
    split at h
    · cases h; simp
    · cases hf : findC l g with
      | none => rw [hf] at h; cases h
      | some r =>
        rw [hf] at h
        cases h
        have := ih hf
        simp; omega
set_option maxRecDepth 100000 in
set_option maxHeartbeats 8000000 in
theorem ClassFinds_any (w : World) (HA : AwM w) (l : List Cls) (ad : Option Addr) (N cap : Nat) (g : List Int) (m : Int) (hF : RwC w w.heap.size ad l) (hN : N = l.length) (hc : N ≤ cap) (_hcm : cap ≤ 9223372036854775807) (hg : g.length = 16) :
    Calls Tryd.prog 7 #[.agg #[.slice ad N cap], .agg (u8s g), .int .i64 m] w fun e w' => e = .returned (.bool true) ∧ Below w.heap.size w w' := by
  obtain ⟨w1, hw1⟩ : ∃ w1, w1 = (w.alloc (.cells #[.slice ad N cap] 24)).alloc (.cells (u8s g) 34) := ⟨_, rfl⟩
  have hb1 : Below w.heap.size w w1 := by rw [hw1]; exact ((Below.refl _ _).alloc (Nat.le_refl _) _).alloc (by simp) _
  have hm1 : Boxed w1 w.heap.size 24 (.slice ad N cap) := by rw [hw1]; exact (Boxed.new w _ _).alloc _
  have hid0 : AtL w1 (w.heap.size + 1) 0 (u8s g).toList := by
    rw [hw1]
    exact AtL.row (by simpa using heap_alloc2_new w (.cells #[.slice ad N cap] 24) (.cells (u8s g) 34))
  have HF := hid (hF.on hb1)
  have HN := hid hN
  have HG := hid hg
  have HI := hid hid0
  have HB1 := hid hb1
  have HM := hid hm1
  have HW := hid hw1
  have HAW := hid HA
  have cm1 : w1.cell? ⟨w.heap.size, 0, none⟩ = some (.slice ad N cap) := hm1.cell
  clear hF hN hg hid0 hb1 hm1 hw1 HA
  go_enter Tryd.func7, Tryd.ntmps7
  go_upto_region 1 with (fail)
  change Code.wp _ _ _ _ ((w.alloc (.cells #[.slice ad N cap] 24)).alloc (.cells (u8s g) 34))
  rw [← HW.out]
  clear HW
  go_wp2_with fail
  refine (great_any w1 ad N cap l HF.out HN.out hc).mono ?_
  rintro e w2 ⟨r, rfl, hr, hb2⟩
  have HB2 := hid hb2
  cases r with
  | true =>
    clear hr hb2 cm1
    go_wp2_with fail
    refine (HAW.out w2 (HB1.out.trans (HB2.out.mono HB1.out.size))).mono ?_
    rintro e w3 ⟨rfl, hb3⟩
    have HB3 := hid (HB1.out.trans ((HB2.out.trans (hb3.mono HB2.out.size)).mono HB1.out.size))
    clear hb3
    go_wp2
    go_ret
    exact ⟨rfl, HB3.out⟩
  | false =>
    have HSM := hid (hr rfl)
    have hN12 : N ≤ 12 := by have := HSM.out.1; have h2 := HN.out; omega
    clear hr hb2 cm1
    have cm2 : w2.cell? ⟨w.heap.size, 0, none⟩ = some (.slice ad N cap) := Boxed.cell ((HB2.out.block w.heap.size HM.out.lt).trans HM.out)
    have H2 := hid (HI.out.below HB2.out)
    go_wp2_with (first
      | ((with_reducible refine at_op ⟨some 22, _, _, _, _, _⟩ ?_); refine wpList_run rfl _ (load_id rfl rfl H2.out HG.out) ?_)
      | fail)
    refine (CFind_any w2 ad N cap l g HG.out (HF.out.on HB2.out) HN.out (by omega) hc).mono ?_
    rintro e w3 ⟨rfl, hb3⟩
    have HB3 := hid (HB2.out.trans (hb3.mono HB2.out.size))
    clear hb3 cm2 H2
    have cm3 : w3.cell? ⟨w.heap.size, 0, none⟩ = some (.slice ad N cap) := Boxed.cell ((HB3.out.block w.heap.size HM.out.lt).trans HM.out)
    have H3 := hid (HI.out.below HB3.out)
    cases hfd : findC l g with
    | none =>
      have hf1 : fndP l g = (0, 8) := by unfold fndP; rw [hfd]
      rw [hf1]
      have HFD := hid hfd
      clear hfd hf1
      go_wp2_with (first
        | ((with_reducible refine at_op ⟨some 27, _, _, _, _, _⟩ ?_); refine wpList_run rfl _ (load_id rfl rfl H3.out HG.out) ?_)
        | fail)
      refine (RFindC_any w3 ad N cap l g HG.out (HF.out.on HB3.out) HN.out (by omega) hc).mono ?_
      rintro e w4 ⟨rfl, hb4⟩
      rw [HFD.out, show rfV none = -1 from rfl]
      have HB4 := hid (HB3.out.trans (hb4.mono HB3.out.size))
      clear hb4 cm3 H3
      go_wp2_with fail
      refine (HAW.out w4 (HB1.out.trans (HB4.out.mono HB1.out.size))).mono ?_
      rintro e w5 ⟨rfl, hb5⟩
      have HB5 := hid (HB1.out.trans ((HB4.out.trans (hb5.mono HB4.out.size)).mono HB1.out.size))
      clear hb5
      go_wp2
      go_ret
      exact ⟨rfl, HB5.out⟩
    | some q =>
    have hql := find_some hfd
    have hf1 : fndP l g = ((q : Int), 0) := by unfold fndP; rw [hfd]
    rw [hf1]
    have hqN : q < N := by have := HN.out; omega
    have HFD := hid hfd
    have hx : l[q]? = some (l[q]'hql) := List.getElem?_eq_getElem hql
    generalize l[q]'hql = f at hx
    clear hfd hf1 hql
    go_wp2_with (first
      | ((with_reducible refine at_op ⟨some 27, _, _, _, _, _⟩ ?_); refine wpList_run rfl _ (load_id rfl rfl H3.out HG.out) ?_)
      | fail)
    refine (RFindC_any w3 ad N cap l g HG.out (HF.out.on HB3.out) HN.out (by omega) hc).mono ?_
    rintro e w4 ⟨rfl, hb4⟩
    rw [HFD.out, show rfV (some q) = (q : Int) from rfl]
    have HB4 := hid (HB3.out.trans (hb4.mono HB3.out.size))
    clear hb4 cm3 H3 HFD
    have cm4 : w4.cell? ⟨w.heap.size, 0, none⟩ = some (.slice ad N cap) := Boxed.cell ((HB4.out.block w.heap.size HM.out.lt).trans HM.out)
    obtain ⟨b, o, rfl, hb⟩ := HF.out.at_ (by have := HN.out; omega)
    obtain ⟨vf, vm, hat, hcc⟩ := HF.out.rows b o rfl q f hx
    have HAT := hid (hat.below HB4.out)
    have HID := hid hcc.id
    have HLN := hid (clc_len (vf := vf) (vm := vm) hcc.id)
    have HIN := hid (show (Tryd.prog.info? 38).map (·.size) = some (clc f vf vm).toArray.size by rw [List.size_toArray, HLN.out]; exact sizeC)
    have HON := hid (show (clc f vf vm).toArray.all (·.oneCell') = true from clc_one (by obtain ⟨a, c, rfl, _⟩ := hcc.f; rfl) (by obtain ⟨a, c, rfl, _⟩ := hcc.m; rfl))
    have hbc := boxD_below w4 (clc f vf vm)
    have HC5 := hid (show InC (boxD w4 (clc f vf vm)) w4.heap.size f vf vm from boxD_row _ _)
    have HB5 := hid (HB4.out.trans (hbc.mono HB4.out.size))
    have HCC := hid (hcc.on (HB4.out.trans (hbc.mono HB4.out.size)))
    have HSF := hid (HSM.out.2 f (List.mem_of_getElem? hx))
    have hq0 : decide ((q : Int) < 0) = false := by simp
    clear hx hat hcc hbc
    go_upto_region 10 with (first
      | ((with_reducible refine at_op ⟨some 51, _, _, _, _, _⟩ ?_); refine wpList_run rfl _ (load_c rfl rfl HAT.out HLN.out) ?_)
      | ((with_reducible refine at_op ⟨none, .store 38 (.tmp 10) (.tmp 51), _, _, _, _⟩ ?_); refine wpList_store_row rfl 38 _ _ rfl w4.heap.size (clc f vf vm).toArray rfl rfl 38 zC (heap_alloc_new _ _) HIN.out (by show 19 = _; rw [List.size_toArray, HLN.out]) HON.out ?_)
      | fail)
    change Code.wp _ _ _ _ (boxD w4 (clc f vf vm))
    obtain ⟨w5, hw5⟩ : ∃ w5, w5 = boxD w4 (clc f vf vm) := ⟨_, rfl⟩
    obtain ⟨g5, hg5⟩ : ∃ g, g = w4.heap.size := ⟨_, rfl⟩
    rw [← hw5, ← hg5] at HC5
    rw [← hw5] at HB5 HCC ⊢
    rw [← hg5]
    have HA5 := hid HC5.out.at
    have HMT := hid (Method_any f vf vm m w5 HCC.out fun k hk => by have := HSF.out.2.2 k hk; omega)
    clear hw5 hg5 HAT HIN HON HB4 cm4 hq0
    go_wp2_with (first
      | ((with_reducible refine at_op ⟨some 53, _, _, _, _, _⟩ ?_); refine wpList_run rfl _ (load_c rfl rfl HA5.out HLN.out) ?_)
      | fail)
    refine HMT.out.mono ?_
    rintro e w6 hmt
    clear HMT HA5
    obtain ⟨am, km, hvm, hM, hkm, hmm⟩ := HCC.out.m
    have HVM := hid hvm
    have HMM := hid hM
    obtain ⟨nm, hnm⟩ : ∃ n, n = f.methods.length := ⟨_, rfl⟩
    have HNM := hid hnm
    rw [← hnm] at hkm HVM
    clear hvm hM
    unfold MetP at hmt
    by_cases hmr : 0 ≤ m ∧ m < f.methods.length
    case neg =>
      rw [if_neg hmr] at hmt
      obtain ⟨rfl, hb6⟩ := hmt
      have HB6 := hid (HB5.out.trans (hb6.mono HB5.out.size))
      have c18 := (HC5.out.on hb6).cm HID.out
      rw [HVM.out] at c18
      clear hb6 HC5 HCC
      have HFIN := hid (fun (W : World) (e : Ending) (W' : World) (hb : Below w1.heap.size w1 W) (h : e = .returned (.bool true) ∧ Below W.heap.size W W') => (show e = .returned (.bool true) ∧ Below w.heap.size w W' from ⟨h.1, HB1.out.trans ((hb.trans (h.2.mono hb.size)).mono HB1.out.size)⟩))
      by_cases hm0 : m < 0
      · have d1 : decide (m < 0) = true := decide_eq_true hm0
        clear hmr hm0 hnm
        go_wp2_with fail
        refine (HAW.out w6 (HB1.out.trans (HB6.out.mono HB1.out.size))).mono ?_
        rintro e w7 h7
        have H7 := hid (HFIN.out w6 e w7 HB6.out h7)
        obtain ⟨rfl, _⟩ := h7
        go_wp2
        go_ret
        exact ⟨rfl, H7.out.2⟩
      · have d1 : decide (m < 0) = false := decide_eq_false hm0
        have d2 : decide ((nm : Int) ≤ m) = true := decide_eq_true (by omega)
        clear hmr hm0 hnm
        go_wp2_with fail
        refine (HAW.out w6 (HB1.out.trans (HB6.out.mono HB1.out.size))).mono ?_
        rintro e w7 h7
        have H7 := hid (HFIN.out w6 e w7 HB6.out h7)
        obtain ⟨rfl, _⟩ := h7
        go_wp2
        go_ret
        exact ⟨rfl, H7.out.2⟩
    rw [if_pos hmr] at hmt
    obtain ⟨v, rfl, hrow⟩ := hmt
    obtain ⟨k, rfl⟩ : ∃ k : Nat, m = k := ⟨m.toNat, by omega⟩
    have hkn : k < nm := by omega
    have hx : f.methods[k]? = some (f.methods[k]'(by omega)) := List.getElem?_eq_getElem _
    generalize f.methods[k]'(by omega) = ls at hx
    have hgd0 : f.methods.getD (k : Int).toNat [] = ls := by simp [hx]
    rw [hgd0] at hrow
    obtain ⟨b3, o3, rfl, _⟩ := HMM.out.at_ (by omega)
    obtain ⟨vl, hvl, al, cl, rfl, hl1, hl2, hl3, hl4⟩ := HMM.out.rows b3 o3 rfl k ls hx
    have hls60 := HSF.out.2.2 ls (List.mem_of_getElem? hx)
    obtain ⟨a6, c6, rfl, hc61, hc62, hR6, hO6⟩ := row_ops hrow
    have hb6 := hrow.2
    have HB6 := hid (HB5.out.trans (hb6.mono HB5.out.size))
    have HC6 := hid (HC5.out.on hb6)
    have HCC6 := hid (HCC.out.on hb6)
    have HMM6 := hid ((HMM.out.kept fun b hb => hb6.block b hb).mono hb6.size)
    have HL6 := hid ((hl1.kept hb6).mono hb6.size)
    have c18 := HC6.out.cm HID.out
    rw [HVM.out] at c18
    have cv : w6.cell? ⟨b3, o3 + k, none⟩ = some (.slice al ls.length cl) := (World.cell?_of_block (w := w5) (w' := w6) (a := ⟨b3, o3 + k, none⟩) (hb6.block b3 (World.block_lt_of_cell? w5 _ hvl))).trans hvl
    have d1 : decide ((k : Int) < 0) = false := by simp
    have d2 : decide ((nm : Int) ≤ (k : Int)) = false := decide_eq_false (by omega)
    have HR6 := hid hR6
    have HO6 := hid hO6
    have HS := hid (SameCode_any ls ls a6 al c6 cl ls.length ls.length w6 HR6.out HL6.out rfl rfl hc61 hl2 hc62)
    have HOK := hid hl4
    obtain ⟨nl, hnl⟩ : ∃ n, n = ls.length := ⟨_, rfl⟩
    have HNL := hid hnl
    rw [← hnl] at hls60 cv HS hc61 ⊢
    clear hmr hx hvl hl1 hl2 hl3 hl4 hrow hR6 hO6 hnm hnl HMM
    go_wp2_with fail
    refine HS.out.mono ?_
    rintro e w7 ⟨r, rfl, hr, hb7⟩
    obtain rfl : r = true := by simpa using hr
    have hb57 := hb6.trans (hb7.mono hb6.size)
    have HB57 := hid hb57
    have HO7 := hid (fun hl => by
      obtain ⟨g, h1, h2, h3, h4⟩ := HO6.out hl
      exact (⟨g, h1, h2, h4.on hb7⟩ : ∃ g, a6 = some ⟨g, 0, none⟩ ∧ w5.heap.size ≤ g ∧ OpC g ls 0 w7))
    have hg5 := lt_of_heap HC5.out
    have HGD := hid hgd0
    clear hb7 hr HS HR6 HL6 HO6 HC6 HCC6 HMM6 c18 cv HB6 d1 d2 hb57 hb6 hgd0
    go_wp2
    go_loopw [13] (fun p wr => ∃ j : Nat, j ≤ nl ∧ p = .int .i64 j ∧ RowKit.Hid (Below w5.heap.size w5 wr) ∧ RowKit.Hid (0 < ls.length → ∃ g, a6 = some ⟨g, 0, none⟩ ∧ w5.heap.size ≤ g ∧ OpC g ls j wr)) (fun p _ => nl - (intOf p).toNat)
    case atStart => exact ⟨0, by omega, rfl, HB57, HO7⟩
    case round =>
      obtain ⟨j, hj, rfl, HBj, HOj⟩ := hrel
      clear HB57 HO7
      by_cases hjn : j < nl
      · have hx : ls[j]? = some (ls[j]'(by have := HNL.out; omega)) := List.getElem?_eq_getElem _
        generalize ls[j]'(by have := HNL.out; omega) = x at hx
        obtain ⟨gL, rfl, hgL, hop⟩ := HOj.out (by have := HNL.out; omega)
        obtain ⟨cj, fj⟩ := hop j x hx
        rw [if_neg (by omega)] at cj
        have hput := hop.put hx
        obtain ⟨y, hy⟩ : ∃ y, y = IntKind.i64.wrap (x.op + 1) := ⟨_, rfl⟩
        have wy : IntKind.i64.wrap (x.op + 1) = y := hy.symm
        rw [← hy] at hput
        have HP := hid (show 0 < ls.length → ∃ g, some (⟨gL, 0, none⟩ : Addr) = some ⟨g, 0, none⟩ ∧ w5.heap.size ≤ g ∧ OpC g ls (j + 1) (wr.setCell ⟨gL, j * 3, none⟩ (.int .i64 y)) from fun _ => ⟨gL, rfl, hgL, hput⟩)
        have HBp := hid (HBj.out.setCell (p := ⟨gL, j * 3, none⟩) hgL (.int .i64 y))
        clear hx hop hput hy HOj HBj
        go_wp2
        exact ⟨⟨j + 1, by omega, by go_num, HBp, HP⟩, by simp [intOf]; omega⟩
      · obtain rfl : j = nl := by omega
        have hinC : InC wr g5 f vf vm := (HBj.out.block g5 hg5).trans HC5.out
        have HA := hid hinC.at
        have HMT := hid (Method_any f vf vm k wr ((HCC.out.kept fun b hb => HBj.out.block b hb).mono HBj.out.size) fun z hz => by have := HSF.out.2.2 z hz; omega)
        clear hinC
        go_wp2_with (first
          | ((with_reducible refine at_op ⟨some 104, _, _, _, _, _⟩ ?_); refine wpList_run rfl _ (load_c rfl rfl HA.out HLN.out) ?_)
          | fail)
        refine HMT.out.mono ?_
        rintro e w8 hmt
        unfold MetP at hmt
        rw [if_pos (by have := HNM.out; omega)] at hmt
        obtain ⟨v8, rfl, hrow⟩ := hmt
        have hgd : f.methods.getD (k : Int).toNat [] = ls := HGD.out
        rw [hgd] at hrow
        obtain ⟨a8, c8, rfl, hc81, hc82, _, hO8⟩ := row_ops hrow
        have hb8 := hrow.2
        have HB8 := hid (HBj.out.trans (hb8.mono HBj.out.size))
        have HO1 := hid (show 0 < ls.length → ∃ g, a6 = some ⟨g, 0, none⟩ ∧ OpC g ls j w8 from fun hl => by
          obtain ⟨g, h1, h2, h3⟩ := HOj.out hl
          exact ⟨g, h1, h3.on hb8⟩)
        have HO2 := hid (show 0 < ls.length → ∃ g, a8 = some ⟨g, 0, none⟩ ∧ OpC g ls 0 w8 from fun hl => by
          obtain ⟨g, h1, _, _, h3⟩ := hO8 hl
          exact ⟨g, h1, h3⟩)
        rw [← HNL.out] at hc81 ⊢
        clear hgd hrow hO8 hb8 HMT HA HBj HOj
        go_wp2
        go_loopw [16] (fun p wr => ∃ i : Nat, i ≤ j ∧ p = .int .i64 i ∧ RowKit.Hid (Below w8.heap.size w8 wr)) (fun p _ => j - (intOf p).toNat)
        case atStart => exact ⟨0, by omega, rfl, hid (Below.refl _ _)⟩
        case round =>
          obtain ⟨i, hi, rfl, HBi⟩ := hrel
          by_cases hij : i < j
          · have hx : ls[i]? = some (ls[i]'(by have := HNL.out; omega)) := List.getElem?_eq_getElem _
            generalize ls[i]'(by have := HNL.out; omega) = x at hx
            obtain ⟨gL, hgL, hop1⟩ := HO1.out (by have := HNL.out; omega)
            obtain ⟨gM, hgM, hop2⟩ := HO2.out (by have := HNL.out; omega)
            subst hgL hgM
            obtain ⟨cL, _⟩ := (hop1.on HBi.out) i x hx
            obtain ⟨cM, _⟩ := (hop2.on HBi.out) i x hx
            rw [if_pos hij] at cL
            rw [if_neg (by omega)] at cM
            have hne := wrap_ne x.op
            obtain ⟨y, hy⟩ : ∃ y, y = IntKind.i64.wrap (x.op + 1) := ⟨_, rfl⟩
            rw [← hy] at cL hne
            obtain ⟨z, hz⟩ : ∃ z, z = x.op := ⟨_, rfl⟩
            rw [← hz] at cM hne
            clear hx hop1 hop2 hy hz HO1 HO2
            go_upto_region 23 with (fail)
            go_quiet (fail)
            have HBn := hid (below_drewN HBi.out nq)
            go_wp2
            go_roundw
            case rel => exact ⟨i + 1, by omega, by go_num, HBn⟩
            case measure => simp [intOf]; omega
          · obtain rfl : i = j := by omega
            have HB9 := hid (HB5.out.trans ((HB8.out.trans (HBi.out.mono HB8.out.size)).mono HB5.out.size))
            clear HBi
            go_wp2_with fail
            refine (HAW.out wr (HB1.out.trans (HB9.out.mono HB1.out.size))).mono ?_
            rintro e w10 ⟨rfl, hb10⟩
            have HB10 := hid (HB1.out.trans ((HB9.out.trans (hb10.mono HB9.out.size)).mono HB1.out.size))
            clear hb10
            go_wp2
            go_ret
            exact ⟨rfl, HB10.out⟩
end Go.Proofs.YtgfimkeopohjaaaDoor
