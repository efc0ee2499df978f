/- HsI HsJ HsK in one -/
import Derived.Test.YtmampaglemleoaaHsDoMake
import Derived.Test.YtmampaglemleoaaHsDoMakeIn
import Derived.Test.YtmampaglemleoaaHsDoUp
import Derived.Test.YtmampaglemleoaaHsDoDown
import Derived.Test.YtmampaglemleoaaHsDoPut
import Derived.Test.YtmampaglemleoaaHsDoRemove
import Derived.Test.YtmampaglemleoaaHsDoStore
import Derived.Test.YtmampaglemleoaaHpE
import Derived.Test.YtmampaglemleoaaMixD
namespace Go.Proofs.Ytmampaglemleoaa
open Go Go.ChangeShapes Go.WideShapes Go.ChangeAt Go.RowKit Go.Maps

theorem HsDo_any (w0 w : World) (pp m : Nat) (vT vX gv : Value) (S1 S2 : Nat → Prop) (s : Hs) (G : List Int) (x : HAct) (h : HsP w0 pp vT vX S1 S2 s s G gv w) (hx : HActOk x) (hm : m ≤ 300) (hg : G.length ≤ m) {km : Nat} (hk : s.A.most = km) :
    Calls Try.prog 14 #[.pointer (some ⟨pp, 0, none⟩), .agg (acc x).toArray] w (HDoPost w0 pp vT vX (m + 1) km) := by
  have h0 := Int.emod_nonneg x.kind (show (11 : Int) ≠ 0 by omega)
  have h1 := Int.emod_lt_of_pos x.kind (show (0 : Int) < 11 by omega)
  rcases (show (x.kind % 11 = 0 ∨ x.kind % 11 = 1) ∨ x.kind % 11 = 2 ∨ (x.kind % 11 = 3 ∨ x.kind % 11 = 4) ∨ (x.kind % 11 = 5 ∨ x.kind % 11 = 6) ∨ (x.kind % 11 = 7 ∨ x.kind % 11 = 8) ∨ x.kind % 11 = 9 ∨ x.kind % 11 = 10 by omega) with q | q | q | q | q | q | q
  · exact HsDo_Make w0 w pp m vT vX gv S1 S2 s G x h hx hm hg hk q
  · exact HsDo_MakeIn w0 w pp m vT vX gv S1 S2 s G x h hx hm hg hk q
  · exact HsDo_Up w0 w pp m vT vX gv S1 S2 s G x h hx hm hg hk q
  · exact HsDo_Down w0 w pp m vT vX gv S1 S2 s G x h hx hm hg hk q
  · exact HsDo_Put w0 w pp m vT vX gv S1 S2 s G x h hx hm hg hk q
  · exact HsDo_Remove w0 w pp m vT vX gv S1 S2 s G x h hx hm hg hk q
  · exact HsDo_Store w0 w pp m vT vX gv S1 S2 s G x h hx hm hg hk q
/-- Between two acts. -/
def HsPI (w0 : World) (pp : Nat) (vT vX : Value) (i k : Nat) (w : World) : Prop := ∃ S1 S2 s G gv, HsP w0 pp vT vX S1 S2 s s G gv w ∧ G.length ≤ i ∧ s.A.most = k
theorem HsPI.no {w0 w w' : World} {pp i k : Nat} {vT vX : Value} (h : HsPI w0 pp vT vX i k w) (hf : Fr (fun _ => False) w w') : HsPI w0 pp vT vX i k w' := by
  obtain ⟨S1, S2, s, G, gv, h1, h2⟩ := h
  exact ⟨S1, S2, s, G, gv, h1.no hf, h2⟩
theorem HsPI.below {w0 w : World} {pp i k : Nat} {vT vX : Value} (h : HsPI w0 pp vT vX i k w) : Below w0.heap.size w0 w := by
  obtain ⟨S1, S2, s, G, gv, h1, _⟩ := h
  exact h1.below
theorem HsPI.do {w0 w : World} {pp i k : Nat} {vT vX : Value} (h : HsPI w0 pp vT vX i k w) (hi : i ≤ 300) {x : HAct} (hx : HActOk x) :
    Calls Try.prog 14 #[.pointer (some ⟨pp, 0, none⟩), .agg (acc x).toArray] w fun e w' => e = .returned (.bool true) ∧ HsPI w0 pp vT vX (i + 1) k w' := by
  obtain ⟨S1, S2, s, G, gv, h1, h2, h3⟩ := h
  exact HsDo_any w0 w pp i vT vX gv S1 S2 s G x h1 hx hi h2 h3
/-- A pair is laid. -/
theorem HsPI.begin {w0 w1 w2 w3 : World} {vT vX : Value} {S1 S2 : Nat → Prop} {s : Hs} (hb1 : Below w0.heap.size w0 w1) (hS1 : ∀ b, S1 b → w0.heap.size ≤ b) (h1 : RpH S1 w1 vT s) (hb2 : Below w1.heap.size w1 w2) (hS2 : ∀ b, S2 b → w1.heap.size ≤ b) (h2 : RfH S2 w2 vX s)
    (hw : w3 = w2.alloc (.cells #[vT, vX, .slice none 0 0] 46)) : HsPI w0 w2.heap.size vT vX 0 s.A.most w3 := by
  have hf : Fr (fun _ => False) w2 w3 := by rw [hw]; exact (Fr.refl _ _).alloc _
  refine ⟨S1, S2, s, [], .slice none 0 0, ⟨by rw [hw]; exact heap_alloc_new _ _, (h1.no (Fr.of_below hb2)).no hf, h2.no hf, RowS.nil _ _ _ _ _, fun b h3 h4 => ?_, fun e => ?_, fun e => ?_, hS1, fun b hb => Nat.le_trans hb1.size (hS2 b hb), Nat.le_trans hb1.size hb2.size, (hb1.trans (hb2.mono hb1.size)).trans (hf.below (B := w0.heap.size) (Nat.le_trans hb1.size hb2.size) (fun _ e => e.elim)), by simp⟩, by simp, rfl⟩
  · have := h1.lt b h3; have := hS2 b h4; omega
  · have := h1.lt _ e; have := hb2.size; omega
  · have := h2.lt _ e; omega
theorem allF_allA (A : Ar) : allF 0 A.L = allA A := by
  have key : ∀ (L : List Spot) (k : Nat), allF k L = ((L.zipIdx k).filter (·.1.t)).map fun p => hand p.2 p.1.g := by
    intro L
    induction L with
    | nil => intro k; rfl
    | cons s L ih =>
      intro k
      rw [List.zipIdx_cons]
      unfold allF
      rw [ih (k + 1)]
      cases hs : s.t <;> simp [hs]
  exact key A.L 0
/-- The twin's places are told. -/
theorem RfH.all {S : Nat → Prop} {w : World} {px : Nat} {s : Hs} (h : RfH S w (.pointer (some ⟨px, 0, none⟩)) s) : ∃ pa, px < w.heap.size ∧ w.cell? ⟨px, 1, none⟩ = some (.pointer (some ⟨pa, 0, none⟩)) ∧
    ∀ W, Fr (fun _ => False) w W → Calls Try.prog 21 #[.pointer (some ⟨pa, 0, none⟩)] W fun e w' => Below W.heap.size W w' ∧ ∃ v, e = .returned v ∧ Told TU u64v w' v (allA s.A) := by
  obtain ⟨p, pa, Sa, F, B, lv, e, h1, h3, h4, h5⟩ := h
  cases e
  refine ⟨pa, h1.lt, h1.c1, fun W hf => (RAll_any Sa W pa s.A (h1.no hf).ar).mono ?_⟩
  rintro e w' ⟨v, rfl, h6, h7⟩
  refine ⟨h7, v, rfl, ?_⟩
  rw [allF_allA] at h6
  exact (⟨h6, fun _ _ e => e⟩ : RowS TU u64v (fun _ => False) W.heap.size w' v (allA s.A)).told
theorem HValue_any {S : Nat → Prop} {w : World} {v : Value} {s : Hs} {hd : Int} (h : RpH S w v s) (h0 : Hn hd) : Calls Try.prog 29 #[v, .int .u64 hd] w fun e w' => e = .returned (match fnd s.L hd with | some o => .tuple #[.int .i64 o.value, .int .i64 0] | none => .tuple #[.int .i64 0, .int .i64 2]) ∧ w = w' := by
  obtain ⟨p, pa, Sa, AA, F, B, rfl, h1, h2, h3, h4, h5⟩ := h
  exact Value_fnd h1 h0
theorem HWhole_some {S : Nat → Prop} {w : World} {v : Value} {s : Hs} {hd : Int} {x : Ob} (h : RpH S w v s) (e : whl s.L hd = some x) : Calls Try.prog 30 #[v, .int .u64 hd] w fun e w' => e = .returned (.tuple #[.int .u64 x.h, .int .i64 0]) ∧ w = w' := by
  obtain ⟨p, pa, Sa, AA, F, B, rfl, h1, h2, h3, h4, h5⟩ := h
  exact Whole_some h1 h3.inv e
theorem HWhole_none {S : Nat → Prop} {w : World} {v : Value} {s : Hs} {hd : Int} (h : RpH S w v s) (e : fnd s.L hd = none) (h0 : Hn hd) : Calls Try.prog 30 #[v, .int .u64 hd] w fun e w' => e = .returned (.tuple #[.int .u64 0, .int .i64 2]) ∧ w = w' := by
  obtain ⟨p, pa, Sa, AA, F, B, rfl, h1, h2, h3, h4, h5⟩ := h
  exact Whole_none h1 e h0
theorem HCount_some {S : Nat → Prop} {w : World} {v : Value} {s : Hs} {hd : Int} {x : Ob} (h : RpH S w v s) (e : whl s.L hd = some x) : Calls Try.prog 26 #[v, .int .u64 hd] w fun e w' => e = .returned (.int .u32 x.count) ∧ w = w' := by
  obtain ⟨p, pa, Sa, AA, F, B, rfl, h1, h2, h3, h4, h5⟩ := h
  exact Count_some h1 h3.inv e
theorem HCount_none {S : Nat → Prop} {w : World} {v : Value} {s : Hs} {hd : Int} (h : RpH S w v s) (e : fnd s.L hd = none) (h0 : Hn hd) : Calls Try.prog 26 #[v, .int .u64 hd] w fun e w' => e = .returned (.int .u32 0) ∧ w = w' := by
  obtain ⟨p, pa, Sa, AA, F, B, rfl, h1, h2, h3, h4, h5⟩ := h
  exact Count_none h1 e h0
/-- The twin's Whole. -/
theorem RfWhole_some {S : Nat → Prop} {w : World} {v : Value} {s : Hs} {hd : Int} {x : Ob} (h : RfH S w v s) (e : whl s.L hd = some x) : ∃ b, w.cell? ⟨b, 0, none⟩ = some (.int .u64 x.h) ∧ w.cell? ⟨b, 2, none⟩ = some (.int .u32 x.count) ∧
    Calls Try.prog 44 #[v, .int .u64 hd] w fun e w' => e = .returned (.pointer (some ⟨b, 0, none⟩)) ∧ w = w' := by
  obtain ⟨p, pa, Sa, F, B, lv, rfl, h1, h3, h4, h5⟩ := h
  obtain ⟨sv, iv, hob⟩ := h1.ob x (whl_some h3.inv e).1
  exact ⟨B x.h, hob.c0, hob.c2, RWhole_some h1 (by have := h3.len; omega) h3.inv e⟩
end Go.Proofs.Ytmampaglemleoaa

namespace Go.Proofs.Ytmampaglemleoaa
open Go Go.ChangeShapes Go.WideShapes Go.ChangeAt Go.RowKit Go.Maps

theorem linksOf_some {L : HL} {h : Int} {o : Ob} (e : fnd L h = some o) : linksOf L h = o.links := by unfold linksOf; rw [e]
theorem linksOf_none {L : HL} {h : Int} (e : fnd L h = none) : linksOf L h = [] := by unfold linksOf; rw [e]
theorem allA_len {A : Ar} (h : Ok A) (hm : A.most ≤ 256) : (allA A).length ≤ 256 := by
  unfold allA
  rw [List.length_map]
  have h1 := List.length_filter_le (fun p : Spot × Nat => p.1.t) A.L.zipIdx
  rw [List.length_zipIdx] at h1
  have h2 := h.len
  omega
/-- Between two handles. -/
def AkI (w0 w : World) (pp : Nat) (vT vX : Value) (S1 S2 : Nat → Prop) (s : Hs) (G : List Int) (gv : Value) (W : World) : Prop := HsP w0 pp vT vX S1 S2 s s G gv W ∧ Below w.heap.size w W
theorem AkI.no {w0 w W W' : World} {pp : Nat} {vT vX gv : Value} {S1 S2 : Nat → Prop} {s : Hs} {G : List Int} (h : AkI w0 w pp vT vX S1 S2 s G gv W) (hb : Below W.heap.size W W') : AkI w0 w pp vT vX S1 S2 s G gv W' :=
  ⟨h.1.no (Fr.of_below hb), h.2.trans (hb.mono h.2.size)⟩
section
variable {w0 w : World} {pp : Nat} {vT vX gv : Value} {S1 S2 : Nat → Prop} {s : Hs} {G : List Int}
set_option maxRecDepth 100000 in
set_option maxHeartbeats 8000000 in
theorem alike_any (h : HsP w0 pp vT vX S1 S2 s s G gv w) (hg : G.length ≤ 1000) (hm : s.A.most ≤ 256) :
    Calls Try.prog 15 #[.pointer (some ⟨pp, 0, none⟩)] w fun e w' => e = .returned (.bool true) ∧ Below w.heap.size w w' := by
  obtain ⟨pt, hpt⟩ := h.t.ptr
  obtain ⟨px, hpx⟩ := h.x.ptr
  have d0 := h.c0
  have d1 := h.c1
  rw [hpt] at d0
  rw [hpx] at d1
  have hx := h.x
  rw [hpx] at hx
  obtain ⟨pa, hpxl, hpa, hall⟩ := hx.all
  have hwd : Below w.heap.size w w.drew := (Below.refl _ _).drew
  have hA := (heapC w).all S1 w.drew vT s 999 hwd ((h.no (Fr.of_below hwd)).t) (by omega)
  rw [List.take_of_length_le (by have := allA_len h.t.hsi.ok.aok hm; omega), hpt] at hA
  have HA := hid hA
  have HALL := hid hall
  have HI := hid (show AkI w0 w pp vT vX S1 S2 s G gv w from ⟨h, Below.refl _ _⟩)
  have HPT := hid hpt
  have HPX := hid hpx
  have HG := hid hg
  have hppl := h.lt
  have HPL := hid hppl
  have HPXL := hid hpxl
  clear hpt hpx h hg hm hx hall hA hwd hppl hpxl
  go_enter Try.func15, Try.ntmps15
  go_upto_region 1 with fail
  refine D.wp_region_mix [0, 0, 0, 1, 2, 0, 0, 0, 1, 0, 0, 1, 2, 2, 0] (fun W => W.cell? ⟨pp, 0, none⟩ = some (.pointer (some ⟨pt, 0, none⟩)) ∧ W.cell? ⟨pp, 1, none⟩ = some (.pointer (some ⟨px, 0, none⟩)) ∧ W.cell? ⟨px, 1, none⟩ = some (.pointer (some ⟨pa, 0, none⟩))) (by kernel_rfl) (by kernel_rfl) ⟨d0, d1, hpa⟩ ?_
  repeat (first
    | (refine' C.wpMix_value _ rfl rfl _ _; rotate_left; (solve | (intro W; go_simp) | (intro W; go_simp; with_reducible rfl)); simp only [Act.put, List.setIfInBounds_toArray, List.set_cons_zero, List.set_cons_succ])
    | (refine' C.wpMix_read _ rfl rfl _ _; rotate_left; (solve | (rintro W ⟨h1, h2, h3⟩; go_simp) | (rintro W ⟨h1, h2, h3⟩; go_simp; with_reducible rfl)); simp only [Act.put, List.setIfInBounds_toArray, List.set_cons_zero, List.set_cons_succ]))
  refine C.wpMix_call 22 #[.pointer (some ⟨pt, 0, none⟩), .int .i64 999] (by decide) rfl (by go_simp) ?_
  refine HA.out.mono ?_
  rintro e w1 ⟨hb1, v1, rfl, t1⟩
  have hc1 : w1.cell? ⟨pp, 0, none⟩ = some (.pointer (some ⟨pt, 0, none⟩)) ∧ w1.cell? ⟨pp, 1, none⟩ = some (.pointer (some ⟨px, 0, none⟩)) ∧ w1.cell? ⟨px, 1, none⟩ = some (.pointer (some ⟨pa, 0, none⟩)) :=
    ⟨(hb1.cell (p := ⟨pp, 0, none⟩) (show pp < w.drew.heap.size from HPL.out)).trans d0, (hb1.cell (p := ⟨pp, 1, none⟩) (show pp < w.drew.heap.size from HPL.out)).trans d1, (hb1.cell (p := ⟨px, 1, none⟩) (show px < w.drew.heap.size from HPXL.out)).trans hpa⟩
  refine ⟨_, rfl, fun _ => hc1, ?_⟩
  simp only [Act.put, List.setIfInBounds_toArray, List.set_cons_zero, List.set_cons_succ]
  have HI1 := hid (HI.out.no (W' := w1) ((Below.refl w.heap.size w).drew.trans hb1))
  have HR := hid (HALL.out w1 (Fr.of_below ((Below.refl w.heap.size w).drew.trans hb1)))
  have T1 := hid t1
  have HC1 := hid hc1
  clear hb1 t1 hc1
  repeat (first
    | (refine' C.wpMix_value _ rfl rfl _ _; rotate_left; (solve | (intro W; go_simp) | (intro W; go_simp; with_reducible rfl)); simp only [Act.put, List.setIfInBounds_toArray, List.set_cons_zero, List.set_cons_succ])
    | (refine' C.wpMix_read _ rfl rfl _ _; rotate_left; (solve | (rintro W ⟨h1, h2, h3⟩; go_simp) | (rintro W ⟨h1, h2, h3⟩; go_simp; with_reducible rfl)); simp only [Act.put, List.setIfInBounds_toArray, List.set_cons_zero, List.set_cons_succ]))
  refine C.wpMix_call 21 #[.pointer (some ⟨pa, 0, none⟩)] (by decide) rfl (by go_simp) ?_
  refine HR.out.mono ?_
  rintro e w2 ⟨hb2, v2, rfl, t2⟩
  have hpl1 : pp < w1.heap.size := HI1.out.1.lt
  have hc2 : w2.cell? ⟨pp, 0, none⟩ = some (.pointer (some ⟨pt, 0, none⟩)) ∧ w2.cell? ⟨pp, 1, none⟩ = some (.pointer (some ⟨px, 0, none⟩)) ∧ w2.cell? ⟨px, 1, none⟩ = some (.pointer (some ⟨pa, 0, none⟩)) :=
    ⟨(hb2.cell (p := ⟨pp, 0, none⟩) hpl1).trans HC1.out.1, (hb2.cell (p := ⟨pp, 1, none⟩) hpl1).trans HC1.out.2.1, (hb2.cell (p := ⟨px, 1, none⟩) (Nat.lt_of_lt_of_le HPXL.out HI1.out.2.size)).trans HC1.out.2.2⟩
  refine ⟨_, rfl, fun _ => hc2, ?_⟩
  simp only [Act.put, List.setIfInBounds_toArray, List.set_cons_zero, List.set_cons_succ]
  have HI2 := hid (HI1.out.no hb2)
  have HS := hid (SameLongs_told w2 v1 v2 _ (T1.out.below hb2) t2)
  have HC2 := hid hc2
  clear hb2 t2 hpl1 hc2 T1 HC1 HI1 HR
  refine C.wpMix_call 20 #[v1, v2] (by decide) rfl (by go_simp) ?_
  refine HS.out.mono ?_
  rintro e w3 ⟨rfl, hb3⟩
  have hpl2 : pp < w2.heap.size := HI2.out.1.lt
  have hc3 : w3.cell? ⟨pp, 0, none⟩ = some (.pointer (some ⟨pt, 0, none⟩)) ∧ w3.cell? ⟨pp, 1, none⟩ = some (.pointer (some ⟨px, 0, none⟩)) ∧ w3.cell? ⟨px, 1, none⟩ = some (.pointer (some ⟨pa, 0, none⟩)) :=
    ⟨(hb3.cell (p := ⟨pp, 0, none⟩) hpl2).trans HC2.out.1, (hb3.cell (p := ⟨pp, 1, none⟩) hpl2).trans HC2.out.2.1, (hb3.cell (p := ⟨px, 1, none⟩) (Nat.lt_of_lt_of_le HPXL.out HI2.out.2.size)).trans HC2.out.2.2⟩
  refine ⟨_, rfl, fun _ => hc3, ?_⟩
  simp only [Act.put, List.setIfInBounds_toArray, List.set_cons_zero, List.set_cons_succ]
  have HI3 := hid (HI2.out.no hb3)
  clear hb3 hpl2 hc3 HC2 HI2 HS d0 d1 hpa HA HALL
  repeat (first
    | (refine' C.wpMix_value _ rfl rfl _ _; rotate_left; (solve | (intro W; go_simp) | (intro W; go_simp; with_reducible rfl)); simp only [Act.put, List.setIfInBounds_toArray, List.set_cons_zero, List.set_cons_succ])
    | (refine' C.wpMix_read _ rfl rfl _ _; rotate_left; (solve | (rintro W ⟨h1, h2, h3⟩; go_simp) | (rintro W ⟨h1, h2, h3⟩; go_simp; with_reducible rfl)); simp only [Act.put, List.setIfInBounds_toArray, List.set_cons_zero, List.set_cons_succ]))
  refine C.wpMix_end ?_
  obtain ⟨ga, gk, hgv, hgk1, hgk2, hgf⟩ := HI3.out.1.g.form
  subst hgv
  by_cases hn0 : 0 < G.length
  · obtain ⟨g, hgg, _⟩ := hgf hn0
    subst hgg
    obtain ⟨n, hn⟩ : ∃ n, n = G.length := ⟨_, rfl⟩
    have HN := hid hn
    have hgl := HG.out
    rw [← hn] at hgl hgk1
    clear hn hgf hn0
    go_wp2
    go_loopw [3] (fun i wr => ∃ k : Nat, k ≤ n ∧ i = .int .i64 k ∧ RowKit.Hid (AkI w0 w pp vT vX S1 S2 s G (.slice (some ⟨g, 0, none⟩) G.length gk) wr)) (fun i _ => n - (intOf i).toNat)
    case atStart => exact ⟨0, Nat.zero_le _, rfl, HI3⟩
    case round =>
      obtain ⟨k, hk, rfl, HR⟩ := hrel
      clear HI3
      have c0 := HR.out.1.c0
      have c1 := HR.out.1.c1
      have c2 := HR.out.1.c2
      rw [HPT.out] at c0
      rw [HPX.out] at c1
      rw [← HN.out] at c2
      by_cases hkn : k < n
      · have hkG : k < G.length := by have := HN.out; omega
        have hcg := HR.out.1.g.cell rfl (List.getElem?_eq_getElem hkG)
        have hu := HR.out.1.gu _ (List.getElem_mem hkG)
        generalize G[k] = hd at hcg hu
        have HU := hid hu
        clear hu hkG
        have hcg2 : wr.cell? ⟨g, k, none⟩ = some (.int .u64 hd) := hcg
        clear hcg
        have HF := hid (RfFind_any S2 wr vX s hd HR.out.1.x)
        have HV := hid (HValue_any HR.out.1.t HU.out)
        have HL := hid (lnC wr S1 wr vT s hd 99 (Below.refl _ _) HR.out.1.t HU.out (by omega))
        rw [HPX.out] at HF
        rw [HPT.out] at HV HL
        go_wp2_with fail
        refine HF.out.mono ?_
        rintro e w4 ⟨rfl, ⟨hno, rfl⟩ | ⟨o, b, sv, iv, hfo, rfl, hSb, hblk, hown, _⟩⟩
        · rw [hno] at HV
          have HW := hid (HWhole_none HR.out.1.t hno HU.out)
          rw [linksOf_none hno, List.take_nil] at HL
          rw [HPT.out] at HW
          have HNO := hid hno
          clear hno HF
          go_wp2_with fail
          refine HV.out.mono ?_
          rintro e w4 ⟨rfl, rfl⟩
          go_wp2_with fail
          refine HW.out.mono ?_
          rintro e w4 ⟨rfl, rfl⟩
          go_wp2_with fail
          refine HL.out.mono ?_
          rintro e w4 ⟨hb4, v4, rfl, t4⟩
          obtain ⟨a4, k4, rfl, _⟩ := t4.ex
          have HR4 := hid (HR.out.no hb4)
          have HC := hid (HCount_none HR4.out.1.t HNO.out HU.out)
          have e0 := HR4.out.1.c0
          rw [HPT.out] at HC e0
          clear hb4 t4 HR HV HW HL c0 c1 c2 hcg2
          simp only [List.length_nil]
          go_wp2_with fail
          refine HC.out.mono ?_
          rintro e w5 ⟨rfl, rfl⟩
          go_wp2
          go_roundw
          case rel => exact ⟨k + 1, by omega, by go_num, HR4⟩
          case measure => simp [intOf]; omega
        · obtain ⟨x, hwx⟩ : ∃ x, whl s.L hd = some x := by
            cases hw : whl s.L hd with
            | none => rw [(whl_none HR.out.1.t.hsi.inv).1 hw] at hfo; cases hfo
            | some x => exact ⟨x, rfl⟩
          have hl8 := (HR.out.1.t.hsi.inv.lnk o (fnd_some hfo).1).1
          rw [hfo] at HV
          have HW := hid (HWhole_some HR.out.1.t hwx)
          rw [linksOf_some hfo, List.take_of_length_le (by omega)] at HL
          rw [HPT.out] at HW
          have HWX := hid hwx
          have HBL := hid hblk
          have HOW := hid hown
          clear hfo hwx HF hSb hblk hown
          go_wp2_with fail
          refine HV.out.mono ?_
          rintro e w4 ⟨rfl, rfl⟩
          go_wp2_with fail
          refine HW.out.mono ?_
          rintro e w4 ⟨rfl, rfl⟩
          go_wp2_with fail
          refine HL.out.mono ?_
          rintro e w4 ⟨hb4, v4, rfl, t4⟩
          obtain ⟨a4, k4, rfl, hk4, hk4m, hat4⟩ := t4.ex
          have HR4 := hid (HR.out.no hb4)
          have hbl4 : w4.heap[b]? = some (.cells #[.int .u64 o.h, .int .u64 o.outer, .int .u32 o.count, .int .i64 o.value, sv, iv] 101 (0, 0)) := (hb4.block b (Array.getElem?_eq_some_iff.1 HBL.out).1).trans HBL.out
          have HBB := hid (Array.getElem?_eq_some_iff.1 hbl4).1
          have HOW4 := hid ((Fr.of_below (fp := fun _ => False) hb4).owns HOW.out (fun _ _ e => e))
          obtain ⟨a5, k5, rfl⟩ := own_form HOW.out
          have hk5 := own_cap HOW.out
          have HAT4 := hid hat4
          have e0 := HR4.out.1.c0
          have e1 := HR4.out.1.c1
          rw [HPT.out] at e0
          rw [HPX.out] at e1
          have b3 : w4.cell? ⟨b, 3, none⟩ = some (.int .i64 o.value) := by rw [cell_of_row w4 b 3 _ _ _ hbl4]; rfl
          have b4 : w4.cell? ⟨b, 4, none⟩ = some (.slice a5 o.links.length k5) := by rw [cell_of_row w4 b 4 _ _ _ hbl4]; rfl
          have HRd := hid (HR4.out.no (W' := w4.drew) (Below.refl _ _).drew)
          obtain ⟨b', q0, q2, htw⟩ := RfWhole_some HRd.out.1.x HWX.out
          have q0' : w4.cell? ⟨b', 0, none⟩ = some (.int .u64 x.h) := q0
          have q2' : w4.cell? ⟨b', 2, none⟩ = some (.int .u32 x.count) := q2
          have HTW := hid htw
          have HC := hid (HCount_some HRd.out.1.t HWX.out)
          rw [HPX.out] at HTW
          rw [HPT.out] at HC
          clear hb4 t4 HR HV HW HL c0 c1 c2 hcg2 hat4 hbl4 q0 q2 htw HBL HOW HR4
          go_upto_region 14 with fail
          refine D.wp_region_mix [0, 0, 0, 0, 1, 0, 0, 0, 0, 0, 0, 0, 0, 0, 0, 0, 0, 0, 0, 1, 0, 2, 0, 0, 1, 0, 0, 0, 0, 0, 0, 1, 0, 2, 0, 0, 0, 1, 0, 2, 0, 0, 1, 0, 0, 0, 0, 0, 0, 0, 0, 1, 0, 0, 0] (fun W => W.cell? ⟨pp, 0, none⟩ = some (.pointer (some ⟨pt, 0, none⟩)) ∧ W.cell? ⟨pp, 1, none⟩ = some (.pointer (some ⟨px, 0, none⟩)) ∧ W.cell? ⟨b, 3, none⟩ = some (.int .i64 o.value) ∧ W.cell? ⟨b, 4, none⟩ = some (.slice a5 o.links.length k5) ∧ W.cell? ⟨b', 0, none⟩ = some (.int .u64 x.h) ∧ W.cell? ⟨b', 2, none⟩ = some (.int .u32 x.count)) (by kernel_rfl) (by kernel_rfl) ⟨e0, e1, b3, b4, q0', q2'⟩ ?_
          repeat (first
            | (refine' C.wpMix_value _ rfl rfl _ _; rotate_left; (solve | (intro W; go_simp) | (intro W; go_simp; with_reducible rfl)); simp only [Act.put, List.setIfInBounds_toArray, List.set_cons_zero, List.set_cons_succ])
            | (refine' C.wpMix_read _ rfl rfl _ _; rotate_left; (solve | (rintro W ⟨h1, h2, h3, h4, h5, h6⟩; go_simp) | (rintro W ⟨h1, h2, h3, h4, h5, h6⟩; go_simp; with_reducible rfl)); simp only [Act.put, List.setIfInBounds_toArray, List.set_cons_zero, List.set_cons_succ]))
          refine C.wpMix_call 44 #[.pointer (some ⟨px, 0, none⟩), .int .u64 hd] (by decide) rfl (by go_simp) ?_
          refine HTW.out.mono ?_
          rintro e w5 ⟨rfl, rfl⟩
          refine ⟨_, rfl, fun _ => ⟨e0, e1, b3, b4, q0', q2'⟩, ?_⟩
          simp only [Act.put, List.setIfInBounds_toArray, List.set_cons_zero, List.set_cons_succ]
          repeat (first
            | (refine' C.wpMix_value _ rfl rfl _ _; rotate_left; (solve | (intro W; go_simp) | (intro W; go_simp; with_reducible rfl)); simp only [Act.put, List.setIfInBounds_toArray, List.set_cons_zero, List.set_cons_succ])
            | (refine' C.wpMix_read _ rfl rfl _ _; rotate_left; (solve | (rintro W ⟨h1, h2, h3, h4, h5, h6⟩; go_simp) | (rintro W ⟨h1, h2, h3, h4, h5, h6⟩; go_simp; with_reducible rfl)); simp only [Act.put, List.setIfInBounds_toArray, List.set_cons_zero, List.set_cons_succ]))
          refine C.wpMix_call 26 #[.pointer (some ⟨pt, 0, none⟩), .int .u64 hd] (by decide) rfl (by go_simp) ?_
          refine HC.out.mono ?_
          rintro e w5 ⟨rfl, rfl⟩
          refine ⟨_, rfl, fun _ => ⟨e0, e1, b3, b4, q0', q2'⟩, ?_⟩
          simp only [Act.put, List.setIfInBounds_toArray, List.set_cons_zero, List.set_cons_succ]
          repeat (first
            | (refine' C.wpMix_value _ rfl rfl _ _; rotate_left; (solve | (intro W; go_simp) | (intro W; go_simp; with_reducible rfl)); simp only [Act.put, List.setIfInBounds_toArray, List.set_cons_zero, List.set_cons_succ])
            | (refine' C.wpMix_read _ rfl rfl _ _; rotate_left; (solve | (rintro W ⟨h1, h2, h3, h4, h5, h6⟩; go_simp) | (rintro W ⟨h1, h2, h3, h4, h5, h6⟩; go_simp; with_reducible rfl)); simp only [Act.put, List.setIfInBounds_toArray, List.set_cons_zero, List.set_cons_succ]))
          refine C.wpMix_call 44 #[.pointer (some ⟨px, 0, none⟩), .int .u64 hd] (by decide) rfl (by go_simp) ?_
          refine HTW.out.mono ?_
          rintro e w5 ⟨rfl, rfl⟩
          refine ⟨_, rfl, fun _ => ⟨e0, e1, b3, b4, q0', q2'⟩, ?_⟩
          simp only [Act.put, List.setIfInBounds_toArray, List.set_cons_zero, List.set_cons_succ]
          repeat (first
            | (refine' C.wpMix_value _ rfl rfl _ _; rotate_left; (solve | (intro W; go_simp) | (intro W; go_simp; with_reducible rfl)); simp only [Act.put, List.setIfInBounds_toArray, List.set_cons_zero, List.set_cons_succ])
            | (refine' C.wpMix_read _ rfl rfl _ _; rotate_left; (solve | (rintro W ⟨h1, h2, h3, h4, h5, h6⟩; go_simp) | (rintro W ⟨h1, h2, h3, h4, h5, h6⟩; go_simp; with_reducible rfl)); simp only [Act.put, List.setIfInBounds_toArray, List.set_cons_zero, List.set_cons_succ]))
          refine C.wpMix_end ?_
          clear e0 e1 b3 q0' q2' HTW HC HWX
          by_cases hl0 : 0 < o.links.length
          · obtain ⟨b5, o5, rfl, hlt5, hat5⟩ := HAT4.out hl0
            obtain ⟨gs, ks, hgs, _⟩ := HOW4.out.form hl0
            cases hgs
            have HAT5 := hid hat5
            have HLT5 := hid hlt5
            have hgsl := (HOW4.out.lt gs rfl).2
            have HGSL := hid hgsl
            obtain ⟨nl, hnl⟩ : ∃ nl, nl = o.links.length := ⟨_, rfl⟩
            rw [← hnl] at b4 ⊢
            have HNL := hid hnl
            have hnk : nl ≤ k4 ∧ nl ≤ k5 ∧ nl ≤ 8 := by omega
            obtain ⟨hnk4, hnk5, hn8⟩ := hnk
            have B4 := hid b4
            have HI0 := hid (show AkI w0 w pp vT vX S1 S2 s G (.slice (some ⟨g, 0, none⟩) G.length gk) w4.drew ∧ Below w4.heap.size w4 w4.drew from ⟨HRd.out, (Below.refl _ _).drew⟩)
            clear hat5 hlt5 hgsl hnl HAT4 HRd hk4 hk4m hk5 hl0 hl8 b4
            go_wp2
            go_loopw [11] (fun i wq => ∃ j : Nat, j ≤ nl ∧ i = .int .i64 j ∧ RowKit.Hid (AkI w0 w pp vT vX S1 S2 s G (.slice (some ⟨g, 0, none⟩) G.length gk) wq ∧ Below w4.heap.size w4 wq)) (fun i _ => nl - (intOf i).toNat)
            case atStart => exact ⟨0, Nat.zero_le _, rfl, HI0⟩
            case round =>
              clear HI0
              obtain ⟨j, hj, rfl, HRj⟩ := hrel
              by_cases hjn : j < nl
              · have hy : o.links[j]? = some (o.links[j]'(by have := HNL.out; omega)) := List.getElem?_eq_getElem _
                generalize o.links[j]'(by have := HNL.out; omega) = y at hy
                have f4 := (HRj.out.2.cell (p := ⟨b, 4, none⟩) HBB.out).trans B4.out
                obtain ⟨a0, a1⟩ := HAT5.out j y hy
                have g0 := (HRj.out.2.cell (p := ⟨b5, o5 + j * 2, none⟩) HLT5.out).trans a0
                have g1 := (HRj.out.2.cell (p := ⟨b5, o5 + j * 2 + 1, none⟩) HLT5.out).trans a1
                have hjl : j < o.links.length := (List.getElem?_eq_some_iff.1 hy).1
                have r0 := HOW4.out.cellAt (j * 2) (by omega)
                have r1 := HOW4.out.cellAt (j * 2 + 1) (by omega)
                rw [(lkv_at _ _ _ hy).1] at r0
                rw [(lkv_at _ _ _ hy).2] at r1
                have p0 := (HRj.out.2.cell (p := ⟨gs, j * 2, none⟩) HGSL.out).trans r0
                have p1 := (HRj.out.2.cell (p := ⟨gs, j * 2 + 1, none⟩) HGSL.out).trans r1
                clear a0 a1 r0 r1 hy hjl
                go_wp2
                go_quiet (fail)
                go_wp2
                refine ⟨⟨j + 1, Nat.succ_le_of_lt hjn, congrArg (Value.int .i64) (show (j : Int) + 1 = ((j + 1 : Nat) : Int) from rfl), HRj.out.1.no (below_drewN (Below.refl _ _) _), below_drewN HRj.out.2 _⟩, ?_⟩
                show nl - (j + 1) < nl - j
                exact Nat.sub_lt_sub_left hjn (Nat.lt_succ_self j)
              · have hjn2 : j = nl := by omega
                subst hjn2
                go_wp2
                go_roundw
                case rel => exact ⟨k + 1, by omega, by go_num, HRj.out.1⟩
                case measure => simp [intOf]; omega
          · have hl0' : o.links.length = 0 := by omega
            rw [hl0'] at b4 ⊢
            clear hl0 hl0'
            go_wp2
            refine wp_loop_rounds 1 ?_
            rw [rounds_succ]
            go_wp2
            go_roundw
            case rel => exact ⟨k + 1, by omega, by go_num, HRd⟩
            case measure => simp [intOf]; omega
      · have hkn2 : k = n := by omega
        subst hkn2
        go_wp2
        go_ret
        exact ⟨rfl, HR.out.2⟩
  · have hz : G.length = 0 := by omega
    have c2 := HI3.out.1.c2
    rw [hz] at c2
    clear hgf hn0 hz
    go_wp2
    refine wp_loop_rounds 1 ?_
    rw [rounds_succ]
    go_wp2
    go_ret
    exact ⟨rfl, HI3.out.2⟩
end
end Go.Proofs.Ytmampaglemleoaa

namespace Go.Proofs.Ytmampaglemleoaa
open Go Go.ChangeShapes Go.WideShapes Go.ChangeAt Go.RowKit Go.Maps

set_option maxRecDepth 100000 in
/-- A pair, begun. -/
theorem begun_any (most top : Int) (w : World) (hm : Nm most) (ht : U32 top) (h : 1 ≤ most ∧ most ≤ 256 ∧ top ≠ 0) :
    Calls Try.prog 13 #[.int .i64 most, .int .u32 top] w fun e w' => ∃ pp vT vX, e = .returned (.pointer (some ⟨pp, 0, none⟩)) ∧ HsPI w pp vT vX 0 (Go.Proofs.Ytmampaglemleoaa.new most.toNat 1).most w' := by
  have HN := hid (HNew_any most top w hm ht)
  have HX := hid (fun W => RfNew_any most top W ht)
  simp only [if_pos h] at HN HX
  clear hm ht h
  go_enter Try.func13, Try.ntmps13
  go_wp2_with fail
  refine HN.out.mono ?_
  rintro e w1 ⟨hb1, p, S1, rfl, hS1, hR1⟩
  obtain ⟨pt, rfl⟩ := hR1.ptr
  have HB1 := hid hb1
  have HS1 := hid hS1
  have HR1 := hid hR1
  clear hb1 hS1 hR1 HN
  go_wp2_with fail
  refine (HX.out w1).mono ?_
  rintro e w2 ⟨hb2, q, S2, rfl, hS2, hR2⟩
  obtain ⟨px, rfl⟩ := hR2.ptr
  have HB2 := hid hb2
  have HS2 := hid hS2
  have HR2 := hid hR2
  clear hb2 hS2 hR2 HX
  go_wp2
  go_ret
  exact ⟨_, _, _, rfl, HsPI.begin HB1.out HS1.out HR1.out HB2.out HS2.out HR2.out rfl⟩
theorem HsPI.alike {w0 w : World} {pp i k : Nat} {vT vX : Value} (h : HsPI w0 pp vT vX i k w) (hi : i ≤ 300) (hk : k ≤ 256) :
    Calls Try.prog 15 #[.pointer (some ⟨pp, 0, none⟩)] w fun e w' => e = .returned (.bool true) ∧ Below w.heap.size w w' := by
  obtain ⟨S1, S2, s, G, gv, h1, h2, h3⟩ := h
  exact alike_any h1 (by omega) (by omega)
set_option maxRecDepth 100000 in
set_option maxHeartbeats 4000000 in
theorem HeapPlays_any (w : World) (most top : Int) (ad : Option Addr) (c : Nat) (l : List HAct) (hm : Nm most) (ht : U32 top) (hl : RwH w w.heap.size ad l) (hll : l.length ≤ 9223372036854775807) :
    Calls Try.prog 3 #[.int .i64 most, .int .u32 top, .slice ad l.length c] w fun e w' => e = .returned (.bool true) ∧ Below w.heap.size w w' := by
  have HAW := hid (heapC w).awk
  by_cases h : 1 ≤ most ∧ most ≤ 256 ∧ top ≠ 0
  · have HN := hid (HNew_any most top w hm ht)
    have HX := hid (fun W => RfNew_any most top W ht)
    have HBG := hid (fun W => begun_any most top W hm ht h)
    simp only [if_pos h] at HN HX
    have HL := hid hl
    have hmk : (new most.toNat 1).most ≤ 256 := by
      have : (new most.toNat 1).most = most.toNat := rfl
      omega
    have HMK := hid hmk
    clear hm ht h hl hmk
    go_enter Try.func3, Try.ntmps3
    go_wp2_with fail
    refine HN.out.mono ?_
    rintro e w1 ⟨hb1, p, S1, rfl, hS1, hR1⟩
    obtain ⟨pt, rfl⟩ := hR1.ptr
    clear hS1 hR1 HN
    go_wp2_with fail
    refine (HX.out w1).mono ?_
    rintro e w2 ⟨hb2, q, S2, rfl, hS2, hR2⟩
    obtain ⟨px, rfl⟩ := hR2.ptr
    have HB2 := hid (hb1.trans (hb2.mono hb1.size))
    clear hb1 hb2 hS2 hR2 HX
    go_wp2_with fail
    refine (HBG.out w2).mono ?_
    rintro e w3 ⟨pp, vT, vX, rfl, hI⟩
    have HI := hid hI
    have HLL := hid hll
    clear hI HBG
    go_wp2
    go_loopw [10] (fun i wr => ∃ k : Nat, k ≤ l.length ∧ k ≤ 120 ∧ i = .int .i64 k ∧ RowKit.Hid (HsPI w2 pp vT vX k (new most.toNat 1).most wr)) (fun i _ => 120 - (intOf i).toNat)
    case atStart => exact ⟨0, Nat.zero_le _, by omega, rfl, HI⟩
    case round =>
      obtain ⟨k, hkl, hk120, rfl, HIk⟩ := hrel
      clear HI
      by_cases hgo : k < l.length ∧ k < 120
      · obtain ⟨hg1, hg2⟩ := hgo
        have hx : l[k]? = some (l[k]'hg1) := List.getElem?_eq_getElem hg1
        generalize l[k]'hg1 = x at hx
        obtain ⟨ab, ao, rfl, hab⟩ := HL.out.at_ (by omega)
        have hbw : Below w.heap.size w wr := HB2.out.trans (HIk.out.below.mono HB2.out.size)
        have HAT := hid ((HL.out.below hbw).rows ab ao rfl k x hx)
        have HOK := HL.out.ok x (List.mem_of_getElem? hx)
        have HDO := hid (HIk.out.do (by omega) HOK)
        clear hx HOK HIk hbw
        go_wp2_with (first
          | ((with_reducible refine at_op ⟨some 51, _, _, _, _, _⟩ ?_); refine wpList_run rfl _ (load_act rfl rfl HAT.out) ?_)
          | fail)
        refine HDO.out.mono ?_
        rintro e w5 ⟨rfl, h5⟩
        have H5 := hid h5
        clear h5 HDO HAT
        go_wp2
        go_roundw
        case rel => exact ⟨k + 1, by omega, by omega, by go_num, H5⟩
        case measure => simp [intOf]; omega
      · have hlt2 : k = l.length ∨ k = 120 := by omega
        have HAL := hid (HIk.out.alike (by omega) HMK.out)
        have HBW := hid (HB2.out.trans (HIk.out.below.mono HB2.out.size))
        clear hgo HIk
        rcases hlt2 with rfl | rfl
        all_goals
          go_wp2_with (first
            | (go_at_call 15; refine HAL.out.mono ?_; rintro e w6 ⟨rfl, hb6⟩)
            | (go_at_call 12; refine (HAW.out w6 (HBW.out.trans (hb6.mono HBW.out.size))).mono ?_; rintro e w7 ⟨hb7, rfl⟩))
          all_goals
            have hb67 := HBW.out.trans (hb6.mono HBW.out.size)
            have HB7 := hid (hb67.trans (hb7.mono hb67.size))
            clear hb6 hb7 hb67
            go_ret
            exact ⟨rfl, HB7.out⟩
  · have HN := hid (HNew_any most top w hm ht)
    have HX := hid (fun W => RfNew_any most top W ht)
    simp only [if_neg h] at HN HX
    clear hm ht h hl hll
    go_enter Try.func3, Try.ntmps3
    go_wp2_with fail
    refine HN.out.mono ?_
    rintro e w1 ⟨hb1, rfl⟩
    have HB1 := hid hb1
    clear hb1
    go_wp2_with fail
    refine (HX.out w1).mono ?_
    rintro e w2 ⟨hb2, rfl⟩
    have HB2 := hid (HB1.out.trans (hb2.mono HB1.out.size))
    clear hb2
    go_wp2_with (go_at_call 12; refine (HAW.out w2 HB2.out).mono ?_; rintro e w3 ⟨hb3, rfl⟩)
    have HB3 := hid (HB2.out.trans (hb3.mono HB2.out.size))
    clear hb3
    go_ret
    exact ⟨rfl, HB3.out⟩
end Go.Proofs.Ytmampaglemleoaa
