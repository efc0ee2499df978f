/-
  The contracts of a run's Garbage, of Bound and of Garbage.
-/
import Derived.Test.YtjmhlmohennknabCyB
import Derived.Laws.CopyOwn
namespace Go.Proofs.Ytjmhlmohennknab
open Go Go.ChangeShapes Go.WideShapes Go.ChangeAt Go.RowKit

section
variable {w w' : World} {p B0 B1 : Nat} {g : Gr} {s : CyS}
theorem RGar_nil (w : World) : Calls Try.prog 17 #[.pointer none] w fun e w' => e = .returned (.slice none 0 0) ∧ w = w' := by
  go_enter Try.func17, Try.ntmps17
  go_wp2
  go_ret
  exact ⟨rfl, rfl⟩
theorem RGar_not (hr : Rn w p B0 B1 g s) (hs : s.sw < 3) : Calls Try.prog 17 #[.pointer (some ⟨p, 0, none⟩)] w fun e w' => e = .returned (.slice none 0 0) ∧ w = w' := by
  obtain ⟨nv, wv, fv, h⟩ := hr
  have c1 := h.c1
  clear h
  go_enter Try.func17, Try.ntmps17
  go_wp2
  go_ret
  exact ⟨rfl, rfl⟩
def RowTold (w : World) (xs : List Nat) (e : Ending) (w' : World) : Prop := ∃ v, e = .returned v ∧ Tl nI w'.heap.size w' v xs ∧ Below w.heap.size w w'
set_option maxRecDepth 100000 in
set_option maxHeartbeats 2000000 in
theorem RGar_over (hr : Rn w p B0 B1 g s) (hs : s.sw = 3) (hf : s.found.length ≤ 100000) : Calls Try.prog 17 #[.pointer (some ⟨p, 0, none⟩)] w (RowTold w s.found) := by
  obtain ⟨nv, wv, fv, h⟩ := hr
  have c1 := h.c1
  rw [hs] at c1
  have hT : Tl nI w.heap.size w fv s.found := own_told h.fo
  obtain ⟨fa, fc, rfl, hfc1, hfc2, hcell⟩ := hT.ex
  have c5 := h.c5
  have hlt := h.lt
  obtain ⟨n, hn⟩ : ∃ n, n = s.found.length := ⟨_, rfl⟩
  rw [← hn] at c5 hf hfc1
  have HN := hid hn
  have HC := hid hcell
  have HLT := hid hlt
  have h5 : (w.alloc (.cells (madeCells #[.int .i64 0] n) TI)).cell? ⟨p, 5, none⟩ = some (.slice fa n fc) := by
    rw [World.cell?_of_block (w := w) (w' := w.alloc (.cells (madeCells #[.int .i64 0] n) TI)) (a := ⟨p, 5, none⟩) (heap_alloc_old _ _ hlt)]
    exact c5
  clear h hT hcell hn hlt
  go_enter Try.func17, Try.ntmps17
  go_upto_region 4 with ((with_reducible refine at_op ⟨some 18, _, _, _, _, _⟩ ?_); go_loud (refine wpList_runN rfl _ _ (exec_makeC (n := n) Try.underlying26 infoI (by omega) (by omega) rfl rfl) ?_))
  have hg : (w.alloc (.cells (madeCells #[.int .i64 0] n) TI)).heap[w.heap.size]? = some (.cells (madeCells #[.int .i64 0] n).toList.toArray TI (0, 0)) := by
    rw [Array.toArray_toList]; exact heap_alloc_new _ _
  have hb : Below w.heap.size w (w.alloc (.cells (madeCells #[.int .i64 0] n) TI)) := (Below.refl _ _).alloc (Nat.le_refl _) _
  have HG := hid hg
  have HB := hid hb
  obtain ⟨w1, hw1⟩ : ∃ w1, w1 = w.alloc (.cells (madeCells #[.int .i64 0] n) TI) := ⟨_, rfl⟩
  rw [← hw1] at HG HB h5 ⊢
  have hpos : 0 < (s.found.map nI).length → (some ⟨w.heap.size, 0, none⟩ : Option Addr) = some ⟨w.heap.size, 0, none⟩ ∧ ∃ ad, fa = some ad ∧ ∀ j v, (s.found.map nI)[j]? = some v → w1.cell? (ad.add j) = some v := fun hpos => by
    refine ⟨rfl, ?_⟩
    rw [List.length_map] at hpos
    obtain ⟨b, o, rfl, hb, hx⟩ := HC.out hpos
    refine ⟨_, rfl, fun j v hv => ?_⟩
    rw [List.getElem?_map, Option.map_eq_some_iff] at hv
    obtain ⟨x, hx2, rfl⟩ := hv
    rw [Addr.add_lit]
    exact (World.cell?_of_block (w := w) (w' := w1) (a := ⟨b, o + j, none⟩) (HB.out.block b hb)).trans (hx j x hx2)
  have HPOS := hid hpos
  clear hg hb c5 c1 hw1 hpos
  go_wp2_with (first
    | ((with_reducible refine at_op ⟨some 24, _, _, _, _, _⟩ ?_); go_loud (refine wpList_copy_splice rfl (.tmp 19) (.tmp 23) 26 26 rfl TI Try.underlying26 (by kernel_rfl) (some ⟨w.heap.size, 0, none⟩) fa n n n fc rfl rfl w.heap.size 0 (madeCells #[.int .i64 0] n).toList TI HG.out (s.found.map nI) (by rw [List.length_map, ← HN.out]; exact (Nat.min_self n).symm) HPOS.out (by simp [size_madeCells, ← HN.out]) (by simp [Value.oneCell']) w.heap.size w HB.out (Nat.le_refl _) ?_; intro w2 k1 k2; have K2 := hid k2; clear k2))
    | fail)
  go_ret
  have hsp : splice (madeCells #[Value.int .i64 0] n).toList 0 (s.found.map nI) = s.found.map nI := by
    unfold splice
    simp [size_madeCells, HN.out]
  have k3 := k1.out
  rw [hsp] at k3
  refine ⟨_, rfl, ⟨some ⟨w.heap.size, 0, none⟩, n, by rw [← HN.out]; rfl, by rw [← HN.out]; exact Nat.le_refl _, by omega, fun hl => ⟨w.heap.size, 0, rfl, (Array.getElem?_eq_some_iff.1 k3).1, fun j x hx => ?_⟩⟩, K2.out⟩
  rw [cell_of_row _ _ _ _ _ _ k3]
  simp [hx]
set_option maxRecDepth 100000 in
set_option maxHeartbeats 2000000 in
theorem Bound_any (w : World) (cv ev : Value) (cs : List Int) (es : List (List Int)) (hG : GrW w.heap.size w cv ev cs es) (hn : cs.length ≤ 100000) (ht : totE es ≤ 1000000) :
    Calls Try.prog 15 #[.agg #[cv, ev]] w fun e w' => e = .returned (.int .i64 ((8 * (cs.length + 1 + totE es) : Nat) : Int)) ∧ Below w.heap.size w w' := by
  obtain ⟨ca, cc, rfl, hcc1, hcc2, hC⟩ := hG.c.ex
  obtain ⟨ea, ec, rfl, hec1, hec2, hE⟩ := hG.e
  have HE := hid hE
  have HT := hid ht
  obtain ⟨n, hn0⟩ : ∃ n, n = cs.length := ⟨_, rfl⟩
  obtain ⟨m, hm0⟩ : ∃ m, m = es.length := ⟨_, rfl⟩
  rw [← hn0] at hcc1 hn
  rw [← hm0] at hec1
  have HM := hid hm0
  rw [← hn0, ← hm0]
  obtain ⟨W1, hW1⟩ : ∃ W1, W1 = w.alloc (.cells #[.slice ca n cc, .slice ea m ec] TGr) := ⟨_, rfl⟩
  have HW1 := hid hW1
  have hb1 : Below w.heap.size w W1 := by rw [hW1]; exact (Below.refl _ _).alloc (Nat.le_refl _) _
  have hg := heap_alloc_new w (.cells #[.slice ca n cc, .slice ea m ec] TGr)
  rw [← hW1] at hg
  have g0 : W1.cell? ⟨w.heap.size, 0, none⟩ = some (.slice ca n cc) := by rw [cell_of_row _ _ 0 _ _ _ hg]; rfl
  have g1 : W1.cell? ⟨w.heap.size, 1, none⟩ = some (.slice ea m ec) := by rw [cell_of_row _ _ 1 _ _ _ hg]; rfl
  have HB1 := hid hb1
  have HG1 := hid g1
  have hwn : IntKind.i64.wrap ((n : Int) + 1) = (n : Int) + 1 := IntWalk.i64_in _ ⟨by omega, by omega⟩
  clear hG hC hE hn0 hm0 ht hb1 hg g1 hW1
  go_enter Try.func15, Try.ntmps15
  go_upto_region 1 with fail
  rw [← HW1.out]
  clear HW1
  have g1 := HG1.out
  go_wp2_with fail
  clear g0 g1
  go_loopw [3, 13] (fun v i wr => ∃ (t : Nat) (b : Int), t ≤ m ∧ i = .int .i64 t ∧ v = .int .i64 b ∧ RowKit.Hid (b = ((n + 1 + totE (es.take t) : Nat) : Int)) ∧ RowKit.Hid (wr = W1)) (fun _ i _ => m - (intOf i).toNat)
  case atStart => exact ⟨0, (n : Int) + 1, by omega, rfl, rfl, hid (by simp [totE]), hid rfl⟩
  case round =>
    obtain ⟨t, b, ht, rfl, rfl, HBv, HWr⟩ := hrel
    have hw := HWr.out.symm
    subst hw
    have htl := totE_take es t
    have hbb := HBv.out
    have htt := HT.out
    have hb0 : 0 ≤ b ∧ b ≤ 1100001 := by omega
    clear htl hbb htt
    by_cases htm : t < m
    · have hlt : t < es.length := by have := HM.out; omega
      have hx : es[t]? = some (es.getD t []) := by rw [List.getD_eq_getElem?_getD, List.getElem?_eq_getElem hlt]; rfl
      obtain ⟨l, hl⟩ : ∃ l, l = es.getD t [] := ⟨_, rfl⟩
      have hsu := totE_succ es t
      have htl := totE_take es (t + 1)
      rw [← hl] at hx hsu
      obtain ⟨b', o, rfl, hb, hcell⟩ := HE.out (by omega)
      obtain ⟨lv, c1, hT⟩ := hcell t l hx
      have cx : W1.cell? ⟨b', o + t, none⟩ = some lv := (World.cell?_of_block (w := w) (w' := W1) (a := ⟨b', o + t, none⟩) (HB1.out.block b' hb)).trans c1
      obtain ⟨la, lc, rfl, _⟩ := hT.ex
      have HSU := hid hsu
      have HTL := hid htl
      obtain ⟨ll, hll⟩ : ∃ ll, ll = l.length := ⟨_, rfl⟩
      have hllb : ll ≤ 1000000 := by have := HT.out; omega
      have HLL := hid hll
      rw [← hll] at cx
      have hwb : IntKind.i64.wrap (b + (ll : Int)) = b + (ll : Int) := IntWalk.i64_in _ ⟨by omega, by omega⟩
      clear hl hx hb hcell c1 hT hlt hsu htl hll
      go_wp2_with fail
      go_roundw
      case rel => exact ⟨t + 1, b + ll, by omega, by go_num, rfl, hid (by have := HSU.out; have := HBv.out; have := HLL.out; omega), by first | exact hid rfl | exact hid trivial⟩
      case measure => simp [intOf]; omega
    · have e : m = t := by omega
      subst e
      have hwb : IntKind.i64.wrap (8 * b) = 8 * b := IntWalk.i64_in _ ⟨by omega, by omega⟩
      go_wp2_with fail
      go_ret
      have h1 := HBv.out
      rw [List.take_of_length_le (by have := HM.out; omega)] at h1
      exact ⟨by rw [h1]; rfl, HB1.out⟩
/-- The plain graph of what is in memory. -/
def grS (cs : List Int) (es : List (List Int)) (su : List Int) : Gr := grOf cs es (fun i => i ∈ wi cs.length su)
theorem grS_ok {cs : List Int} {es : List (List Int)} {su : List Int} (h : ∀ c ∈ cs, 0 ≤ c ∧ c ≤ 4294967295) : GrOk (grS cs es su) := grOf_ok h (fun i hi => wi_lt i hi)
theorem grS_sz {cs : List Int} {es : List (List Int)} {su : List Int} (h : cs.length ≤ 1000) (ht : totE es ≤ 1000000) : GrSz (grS cs es su) := ⟨Nat.le_trans h (by omega), Nat.le_trans (tot_grOf _ _ _) ht⟩
theorem len_totE {es : List (List Int)} {l : List Int} (h : l ∈ es) : l.length ≤ totE es := by
  unfold totE
  induction es with
  | nil => cases h
  | cons a es ih =>
    rw [List.map_cons, List.sum_cons]
    rcases List.mem_cons.1 h with rfl | h
    · omega
    · have := ih h
      omega
set_option maxRecDepth 100000 in
set_option maxHeartbeats 2000000 in
theorem Garbage_any (w : World) (cv ev sv : Value) (cs : List Int) (es : List (List Int)) (su : List Int) (hG : GrW w.heap.size w cv ev cs es) (hS : Tl iv w.heap.size w sv su) (hn : cs.length ≤ 1000) (ht : totE es ≤ 1000000) (hsu : (wi cs.length su).length ≤ 1000000) :
    Calls Try.prog 11 #[.agg #[cv, ev], sv] w (RowTold w (grS cs es su).garb) := by
  have hok := grS_ok (es := es) (su := su) hG.cb
  have hsz := grS_sz (cs := cs) (su := su) hn ht
  obtain ⟨W1, hW1⟩ : ∃ W1, W1 = w.alloc (.cells #[cv, ev] TGr) := ⟨_, rfl⟩
  have hb1 : Below w.heap.size w W1 := by rw [hW1]; exact (Below.refl _ _).alloc (Nat.le_refl _) _
  have hg := heap_alloc_new w (.cells #[cv, ev] TGr)
  rw [← hW1] at hg
  have hG1 := (hG.below hb1).up hb1.size
  have hBeg := Begin_any W1 cv ev sv cs es su hG1 ((hS.below hb1).up hb1.size) hn (fun l hl => Nat.le_trans (len_totE hl) ht) hsu
  have HBEG := hid hBeg
  have HG1 := hid hG1
  have HOK := hid hok
  have HSZ := hid hsz
  have HG := hid hg
  have HW1 := hid hW1
  have HB1 := hid hb1
  have HNT := hid (And.intro hn ht)
  obtain ⟨ca, cc, rfl, _⟩ := hG.c.ex
  obtain ⟨ea, ec, rfl, _⟩ := hG.e
  have hat : AtL W1 w.heap.size 0 [.slice ca cs.length cc, .slice ea es.length ec] := AtL.row hg
  have HAT := hid hat
  clear hG hS hn ht hsu hok hsz hg hW1 hb1 hG1 hBeg hat
  go_enter Try.func11, Try.ntmps11
  go_upto_region 1 with fail
  rw [← HW1.out]
  go_wp2_with (first
    | ((with_reducible refine at_op ⟨some 6, _, _, _, _, _⟩ ?_); go_loud (refine wpList_run rfl _ (load_cells Try.underlying25 (by rfl) (by kernel_rfl) rfl rfl HAT.out) ?_))
    | fail)
  refine HBEG.out.mono ?_
  rintro e w2 ⟨p, B1, rfl, hR, hb2⟩
  have HR := hid hR
  have hb12 := HB1.out.trans (hb2.mono HB1.out.size)
  have HB2 := hid hb12
  have hg2 := (hb2.block _ (Array.getElem?_eq_some_iff.1 HG.out).1).trans HG.out
  have HAT2 := hid (show AtL w2 w.heap.size 0 [.slice ca cs.length cc, .slice ea es.length ec] from AtL.row hg2)
  have HBND := hid (Bound_any w2 _ _ cs es ((HG1.out.below hb2).up hb2.size) (by have := HNT.out; omega) HNT.out.2)
  have HNB := hid (show (8 * (cs.length + 1 + totE es) : Nat) ≤ 10000000 by have := HNT.out; omega)
  clear hR hb2 hb12 hg2 HBEG HAT HW1
  go_wp2_with (first
    | ((with_reducible refine at_op ⟨some 10, _, _, _, _, _⟩ ?_); go_loud (refine wpList_run rfl _ (load_cells Try.underlying25 (by rfl) (by kernel_rfl) rfl rfl HAT2.out) ?_))
    | fail)
  refine HBND.out.mono ?_
  rintro e w3 ⟨rfl, hb3⟩
  obtain ⟨nv, wv, fv, hR⟩ := HR.out
  have hR3 : Rn w3 p W1.heap.size B1 (grS cs es su) (begS cs (wi cs.length su)) := ⟨nv, wv, fv, hR.no (Fr.of_below hb3)⟩
  have HST := hid (Step_any hR3 begS_ok HOK.out HSZ.out ((8 * (cs.length + 1 + totE es) : Nat) : Int) ⟨by omega, by have := HNB.out; omega⟩)
  have HB3 := hid (HB2.out.trans (hb3.mono HB2.out.size))
  clear hR hR3 hb3 HBND HAT2 HR
  go_wp2_with fail
  refine HST.out.mono ?_
  rintro e w4 ⟨s4, rfl, hR4, hJ4, hb4, hph, _⟩
  have hs4 : s4.sw = 3 := by
    have h1 := hJ4.sw
    by_cases h2 : s4.sw < 3
    · have h3 := hph h2
      have h4 := Phi_new (g := grS cs es su) (s := begS cs (wi cs.length su)) rfl rfl rfl
      have h5 : tot (grS cs es su).e (grS cs es su).n ≤ totE es := tot_grOf _ _ _
      have h6 : (grS cs es su).n = cs.length := rfl
      omega
    · omega
  have hfo := hJ4.s3 hs4
  have hgl := Gr.garb_len (grS cs es su)
  have HGB := hid (RGar_over hR4 hs4 (by rw [hfo]; have := HNT.out; have h6 : (grS cs es su).n = cs.length := rfl; omega))
  have HFO := hid hfo
  have HB4 := hid (HB3.out.trans (hb4.mono (HB1.out.size)))
  clear hR4 hJ4 hb4 hph hs4 hfo hgl HST
  go_wp2_with fail
  refine HGB.out.mono ?_
  rintro e w5 ⟨v, rfl, hT, hb5⟩
  rw [HFO.out] at hT
  have HT := hid hT
  have HB5 := hid (HB4.out.trans (hb5.mono HB4.out.size))
  clear hT hb5
  go_wp2_with fail
  go_ret
  exact ⟨v, rfl, HT.out, HB5.out⟩
end
end Go.Proofs.Ytjmhlmohennknab
