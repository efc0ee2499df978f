/-
  An act at a tally and at its plain twin.
-/
import Derived.Test.YtmmmjkmhlkkdkaaRfB
namespace Go.Proofs.Ytmmmjkmhlkkdkaa
open Go.ChangeShapes Go.WideShapes Go.ChangeAt Go.RowKit Go.Maps Go.Shelf

theorem lay_cut {k c : Int} : ∀ {l : TM}, Rising l → (k, c) ∈ l → lay (k, c) (cut l k) = l
  | [], _, h => by cases h
  | z :: r, h, hm => by
    obtain ⟨h1, h2⟩ := List.pairwise_cons.1 h
    rcases List.mem_cons.1 hm with rfl | hm
    · have e : cut ((k, c) :: r) k = r := by
        unfold cut
        rw [List.filter_cons_of_neg (by simp), List.filter_eq_self]
        intro p hp
        have := h1 p hp
        simp at this ⊢; omega
      rw [e]
      cases r with
      | nil => rfl
      | cons y s =>
        have := h1 y (by simp)
        unfold lay
        rw [if_pos this]
    · have hz := h1 _ hm
      simp at hz
      have e : cut (z :: r) k = z :: cut r k := by
        unfold cut
        rw [List.filter_cons_of_pos (by simp; omega)]
      rw [e]
      unfold lay
      rw [if_neg (by simp; omega), lay_cut h2 hm]
theorem set_self {most : Int} {l : TM} (h : Good most l) (k : Int) : setM l k (getM l k) = l := by
  rcases get_mem (l := l) (k := k) with e | e
  · rw [e]
    unfold setM
    rw [if_pos rfl]
    unfold cut
    rw [List.filter_eq_self]
    intro p hp
    have h1 := get_of_mem h.rise hp
    have h2 := h.pos p hp
    have : p.1 ≠ k := fun e2 => by rw [e2, e] at h1; omega
    simpa using this
  · have h2 := h.pos _ e
    simp only at h2
    unfold setM
    rw [if_neg (by omega)]
    exact lay_cut h.rise e
/-- A tally and its plain twin in memory. -/
structure PairW (w : World) (p b n q : Nat) (most : Int) (M R : TM) (lv : Value) : Prop where
  tl : TlW w p b n most M
  rf : RfT w q lv most R
  gr : GoodR most R
  eq : nz R = M
  pq : p < q
  bq : b < q
  len : R.length ≤ n
theorem PairW.fr {w w' : World} {p b n q : Nat} {most : Int} {M R : TM} {lv : Value} (h : PairW w p b n q most M R lv) (hf : Fr (fun _ => False) w w') : PairW w' p b n q most M R lv :=
  ⟨h.tl.fr hf (fun h => h) (fun h => h), h.rf.fr hf (fun _ _ h => h), h.gr, h.eq, h.pq, h.bq, h.len⟩
def DoPost (p b n q : Nat) (most : Int) (w : World) (e : Ending) (w' : World) : Prop :=
  (∃ v, e = .returned (.bool v)) ∧ (∃ M R lv, PairW w' p b (n + 1) q most M R lv) ∧ Fr (fun j => j = b ∨ q ≤ j) w w'

set_option maxHeartbeats 1000000 in
set_option maxRecDepth 100000 in
theorem Do_down_yes (w : World) (p b n q : Nat) (most : Int) (M R : TM) (lv : Value) (a : Act3) (h : PairW w p b n q most M R lv) (hn : n ≤ 1000) (hk : U64 a.key) (hx : U32 a.n) (hd : a.down = true) (hc : a.n ≤ getM M a.key) :
    Calls Try.prog 9 #[.pointer (some ⟨p, 0, none⟩), .pointer (some ⟨q, 0, none⟩), .agg #[.bool a.down, .int .u64 a.key, .int .u32 a.n]] w (DoPost p b n q most w) := by
  rw [hd]
  obtain ⟨W0, hW0⟩ : ∃ W0, W0 = w.alloc (.cells #[.bool true, .int .u64 a.key, .int .u32 a.n] 33) := ⟨_, rfl⟩
  have f0 : Fr (fun _ => False) w W0 := by rw [hW0]; exact (Fr.refl _ w).alloc _
  have h0 := h.fr f0
  have t0 := h0.tl
  have hm0 := t0.m0
  have hm1 := t0.m1
  have hgo := t0.good
  have hD := hid (Down_yes W0 p b n most a.key a.n M t0 (by omega) hk.1 hk.2 hx.1 hc)
  have hge : getM M a.key = getM R a.key := by rw [← h.eq]; exact nz_get h.gr.rise h.gr.lo a.key
  have hR := hid (fun (W : World) (hW : RfT W q lv most R) => RDown_yes W q lv most a.key a.n R hW h.gr ⟨hm0, hm1⟩ (by have := h.len; omega) hx (by rw [← hge]; exact hc))
  have x0 : W0.cell? ⟨w.heap.size, 0, none⟩ = some (.bool true) := by rw [hW0]; exact cell_of_row _ _ 0 _ 33 _ (heap_alloc_new w _)
  have x1 : W0.cell? ⟨w.heap.size, 1, none⟩ = some (.int .u64 a.key) := by rw [hW0]; exact cell_of_row _ _ 1 _ 33 _ (heap_alloc_new w _)
  have x2 : W0.cell? ⟨w.heap.size, 2, none⟩ = some (.int .u32 a.n) := by rw [hW0]; exact cell_of_row _ _ 2 _ 33 _ (heap_alloc_new w _)
  obtain ⟨g, hg⟩ : ∃ g, g = getM M a.key := ⟨_, rfl⟩
  have hg0 := hgo.get0 a.key
  have hg1 := hgo.get1 hm0 a.key
  have hD2 := hD.out
  have hR2 := hR.out
  rw [← hg] at hD2 hg0 hg1 hc hge
  rw [← hge] at hR2
  have hD := hid hD2
  have hR := hid hR2
  have H0 := hid h0
  have HG := hid hg
  have HGE := hid hge
  have HGO := hid hgo
  have HW := hid hW0
  have F0 := hid f0
  have hb := t0.ltb
  have hwb : b < w.heap.size := h.tl.ltb
  have HDN := hid hd
  clear hD2 hR2 h0 t0 hg hge hgo h f0 hW0 hd
  obtain ⟨k0, k1⟩ := hk
  obtain ⟨n0, n1⟩ := hx
  go_enter Try.func9, Try.ntmps9
  go_wp2_with fail
  rw [← HW.out]
  refine hD.out.mono ?_
  rintro e w1 ⟨rfl, t1, f1⟩
  have r1 := H0.out.rf.fr f1 (fun j hj e => by have := H0.out.bq; omega)
  have y1 : w1.cell? ⟨w.heap.size, 1, none⟩ = some (.int .u64 a.key) := (World.cell?_of_block (f1.block w.heap.size (World.block_lt_of_cell? W0 _ x1) (by omega))).trans x1
  have y2 : w1.cell? ⟨w.heap.size, 2, none⟩ = some (.int .u32 a.n) := (World.cell?_of_block (f1.block w.heap.size (World.block_lt_of_cell? W0 _ x1) (by omega))).trans x2
  have T1 := hid t1
  have F1 := hid f1
  have HR1 := hid (hR.out w1 r1)
  clear t1 f1 r1 x0 x1 x2
  go_wp2_with fail
  refine HR1.out.mono ?_
  rintro e w2 ⟨rfl, ⟨lv2, r2⟩, f2⟩
  have R2 := hid r2
  have F2 := hid f2
  clear r2 f2 HR1 hR hD
  go_wp2
  go_ret
  refine ⟨⟨_, rfl⟩, ⟨_, _, lv2, ⟨T1.out.fr F2.out (by have := H0.out.pq; omega) (by have := H0.out.bq; omega), R2.out, H0.out.gr.set _ _ (by omega) (by omega), ?_, H0.out.pq, H0.out.bq, ?_⟩⟩, ?_⟩
  · rw [nz_set H0.out.gr.rise _ _ (by omega), H0.out.eq]
  · have := setR_len R a.key (g - a.n) H0.out.gr.rise
    have := H0.out.len
    omega
  · exact ((F0.out.mono (fun _ h _ => h.elim)).trans F1.out (fun j hj _ => .inl hj)).trans F2.out (fun j hj _ => .inr hj)

set_option maxHeartbeats 1000000 in
set_option maxRecDepth 100000 in
theorem Do_down_no (w : World) (p b n q : Nat) (most : Int) (M R : TM) (lv : Value) (a : Act3) (h : PairW w p b n q most M R lv) (hn : n ≤ 1000) (hk : U64 a.key) (hx : U32 a.n) (hd : a.down = true) (hc : getM M a.key < a.n) :
    Calls Try.prog 9 #[.pointer (some ⟨p, 0, none⟩), .pointer (some ⟨q, 0, none⟩), .agg #[.bool a.down, .int .u64 a.key, .int .u32 a.n]] w (DoPost p b n q most w) := by
  rw [hd]
  obtain ⟨W0, hW0⟩ : ∃ W0, W0 = w.alloc (.cells #[.bool true, .int .u64 a.key, .int .u32 a.n] 33) := ⟨_, rfl⟩
  have f0 : Fr (fun _ => False) w W0 := by rw [hW0]; exact (Fr.refl _ w).alloc _
  have h0 := h.fr f0
  have t0 := h0.tl
  have hm0 := t0.m0
  have hm1 := t0.m1
  have hgo := t0.good
  have hD := hid (Down_no W0 p b n most a.key a.n M t0 hk.1 hk.2 hc)
  have hge : getM M a.key = getM R a.key := by rw [← h.eq]; exact nz_get h.gr.rise h.gr.lo a.key
  have hR := hid (fun (W : World) (hW : RfT W q lv most R) => RDown_no W q lv most a.key a.n R hW h.gr ⟨hm0, hm1⟩ (by have := h.len; omega) hx (by rw [← hge]; exact hc))
  have x0 : W0.cell? ⟨w.heap.size, 0, none⟩ = some (.bool true) := by rw [hW0]; exact cell_of_row _ _ 0 _ 33 _ (heap_alloc_new w _)
  have x1 : W0.cell? ⟨w.heap.size, 1, none⟩ = some (.int .u64 a.key) := by rw [hW0]; exact cell_of_row _ _ 1 _ 33 _ (heap_alloc_new w _)
  have x2 : W0.cell? ⟨w.heap.size, 2, none⟩ = some (.int .u32 a.n) := by rw [hW0]; exact cell_of_row _ _ 2 _ 33 _ (heap_alloc_new w _)
  obtain ⟨g, hg⟩ : ∃ g, g = getM M a.key := ⟨_, rfl⟩
  have hg0 := hgo.get0 a.key
  have hg1 := hgo.get1 hm0 a.key
  have hD2 := hD.out
  have hR2 := hR.out
  rw [← hg] at hD2 hg0 hg1 hc hge
  rw [← hge] at hR2
  have hD := hid hD2
  have hR := hid hR2
  have H0 := hid h0
  have HG := hid hg
  have HGE := hid hge
  have HGO := hid hgo
  have HW := hid hW0
  have F0 := hid f0
  have hb := t0.ltb
  have hwb : b < w.heap.size := h.tl.ltb
  have HDN := hid hd
  clear hD2 hR2 h0 t0 hg hge hgo h f0 hW0 hd
  obtain ⟨k0, k1⟩ := hk
  obtain ⟨n0, n1⟩ := hx
  go_enter Try.func9, Try.ntmps9
  go_wp2_with fail
  rw [← HW.out]
  refine hD.out.mono ?_
  rintro e w1 ⟨rfl, hw1⟩
  subst hw1
  have HR1 := hid (hR.out W0 H0.out.rf)
  go_wp2_with fail
  refine HR1.out.mono ?_
  rintro e w2 ⟨rfl, ⟨lv2, r2⟩, f2⟩
  have R2 := hid r2
  have F2 := hid f2
  clear r2 f2 HR1 hR hD
  go_wp2
  go_ret
  refine ⟨⟨_, rfl⟩, ⟨_, _, lv2, ⟨H0.out.tl.fr F2.out (by have := H0.out.pq; omega) (by have := H0.out.bq; omega) |>.mono (by omega), R2.out, H0.out.gr.set _ _ (by omega) (by omega), ?_, H0.out.pq, H0.out.bq, ?_⟩⟩, ?_⟩
  · rw [nz_set H0.out.gr.rise _ _ (by omega), H0.out.eq]
    rw [HG.out]
    exact set_self HGO.out _
  · have := setR_len R a.key (g) H0.out.gr.rise
    have := H0.out.len
    omega
  · exact (F0.out.mono (fun _ h _ => h.elim)).trans F2.out (fun j hj _ => .inr hj)

set_option maxHeartbeats 1000000 in
set_option maxRecDepth 100000 in
theorem Do_up_yes (w : World) (p b n q : Nat) (most : Int) (M R : TM) (lv : Value) (a : Act3) (h : PairW w p b n q most M R lv) (hn : n ≤ 1000) (hk : U64 a.key) (hx : U32 a.n) (hd : a.down = false) (hc : getM M a.key + a.n ≤ most) :
    Calls Try.prog 9 #[.pointer (some ⟨p, 0, none⟩), .pointer (some ⟨q, 0, none⟩), .agg #[.bool a.down, .int .u64 a.key, .int .u32 a.n]] w (DoPost p b n q most w) := by
  rw [hd]
  obtain ⟨W0, hW0⟩ : ∃ W0, W0 = w.alloc (.cells #[.bool false, .int .u64 a.key, .int .u32 a.n] 33) := ⟨_, rfl⟩
  have f0 : Fr (fun _ => False) w W0 := by rw [hW0]; exact (Fr.refl _ w).alloc _
  have h0 := h.fr f0
  have t0 := h0.tl
  have hm0 := t0.m0
  have hm1 := t0.m1
  have hgo := t0.good
  have hD := hid (Up_yes W0 p b n most a.key a.n M t0 (by omega) hk.1 hk.2 hx.1 hc)
  have hge : getM M a.key = getM R a.key := by rw [← h.eq]; exact nz_get h.gr.rise h.gr.lo a.key
  have hR := hid (fun (W : World) (hW : RfT W q lv most R) => RUp_yes W q lv most a.key a.n R hW h.gr ⟨hm0, hm1⟩ (by have := h.len; omega) hx (by rw [← hge]; exact hc))
  have x0 : W0.cell? ⟨w.heap.size, 0, none⟩ = some (.bool false) := by rw [hW0]; exact cell_of_row _ _ 0 _ 33 _ (heap_alloc_new w _)
  have x1 : W0.cell? ⟨w.heap.size, 1, none⟩ = some (.int .u64 a.key) := by rw [hW0]; exact cell_of_row _ _ 1 _ 33 _ (heap_alloc_new w _)
  have x2 : W0.cell? ⟨w.heap.size, 2, none⟩ = some (.int .u32 a.n) := by rw [hW0]; exact cell_of_row _ _ 2 _ 33 _ (heap_alloc_new w _)
  obtain ⟨g, hg⟩ : ∃ g, g = getM M a.key := ⟨_, rfl⟩
  have hg0 := hgo.get0 a.key
  have hg1 := hgo.get1 hm0 a.key
  have hD2 := hD.out
  have hR2 := hR.out
  rw [← hg] at hD2 hg0 hg1 hc hge
  rw [← hge] at hR2
  have hD := hid hD2
  have hR := hid hR2
  have H0 := hid h0
  have HG := hid hg
  have HGE := hid hge
  have HGO := hid hgo
  have HW := hid hW0
  have F0 := hid f0
  have hb := t0.ltb
  have hwb : b < w.heap.size := h.tl.ltb
  have HDN := hid hd
  clear hD2 hR2 h0 t0 hg hge hgo h f0 hW0 hd
  obtain ⟨k0, k1⟩ := hk
  obtain ⟨n0, n1⟩ := hx
  go_enter Try.func9, Try.ntmps9
  go_wp2_with fail
  rw [← HW.out]
  refine hD.out.mono ?_
  rintro e w1 ⟨rfl, t1, f1⟩
  have r1 := H0.out.rf.fr f1 (fun j hj e => by have := H0.out.bq; omega)
  have y1 : w1.cell? ⟨w.heap.size, 1, none⟩ = some (.int .u64 a.key) := (World.cell?_of_block (f1.block w.heap.size (World.block_lt_of_cell? W0 _ x1) (by omega))).trans x1
  have y2 : w1.cell? ⟨w.heap.size, 2, none⟩ = some (.int .u32 a.n) := (World.cell?_of_block (f1.block w.heap.size (World.block_lt_of_cell? W0 _ x1) (by omega))).trans x2
  have T1 := hid t1
  have F1 := hid f1
  have HR1 := hid (hR.out w1 r1)
  clear t1 f1 r1 x0 x1 x2
  go_wp2_with fail
  refine HR1.out.mono ?_
  rintro e w2 ⟨rfl, ⟨lv2, r2⟩, f2⟩
  have R2 := hid r2
  have F2 := hid f2
  clear r2 f2 HR1 hR hD
  go_wp2
  go_ret
  refine ⟨⟨_, rfl⟩, ⟨_, _, lv2, ⟨T1.out.fr F2.out (by have := H0.out.pq; omega) (by have := H0.out.bq; omega), R2.out, H0.out.gr.set _ _ (by omega) (by omega), ?_, H0.out.pq, H0.out.bq, ?_⟩⟩, ?_⟩
  · rw [nz_set H0.out.gr.rise _ _ (by omega), H0.out.eq]
  · have := setR_len R a.key (g + a.n) H0.out.gr.rise
    have := H0.out.len
    omega
  · exact ((F0.out.mono (fun _ h _ => h.elim)).trans F1.out (fun j hj _ => .inl hj)).trans F2.out (fun j hj _ => .inr hj)

set_option maxHeartbeats 1000000 in
set_option maxRecDepth 100000 in
theorem Do_up_no (w : World) (p b n q : Nat) (most : Int) (M R : TM) (lv : Value) (a : Act3) (h : PairW w p b n q most M R lv) (hn : n ≤ 1000) (hk : U64 a.key) (hx : U32 a.n) (hd : a.down = false) (hc : most < getM M a.key + a.n) :
    Calls Try.prog 9 #[.pointer (some ⟨p, 0, none⟩), .pointer (some ⟨q, 0, none⟩), .agg #[.bool a.down, .int .u64 a.key, .int .u32 a.n]] w (DoPost p b n q most w) := by
  rw [hd]
  obtain ⟨W0, hW0⟩ : ∃ W0, W0 = w.alloc (.cells #[.bool false, .int .u64 a.key, .int .u32 a.n] 33) := ⟨_, rfl⟩
  have f0 : Fr (fun _ => False) w W0 := by rw [hW0]; exact (Fr.refl _ w).alloc _
  have h0 := h.fr f0
  have t0 := h0.tl
  have hm0 := t0.m0
  have hm1 := t0.m1
  have hgo := t0.good
  have hD := hid (Up_no W0 p b n most a.key a.n M t0 hk.1 hk.2 hx.2 hc)
  have hge : getM M a.key = getM R a.key := by rw [← h.eq]; exact nz_get h.gr.rise h.gr.lo a.key
  have hR := hid (fun (W : World) (hW : RfT W q lv most R) => RUp_no W q lv most a.key a.n R hW h.gr ⟨hm0, hm1⟩ (by have := h.len; omega) hx (by rw [← hge]; exact hc))
  have x0 : W0.cell? ⟨w.heap.size, 0, none⟩ = some (.bool false) := by rw [hW0]; exact cell_of_row _ _ 0 _ 33 _ (heap_alloc_new w _)
  have x1 : W0.cell? ⟨w.heap.size, 1, none⟩ = some (.int .u64 a.key) := by rw [hW0]; exact cell_of_row _ _ 1 _ 33 _ (heap_alloc_new w _)
  have x2 : W0.cell? ⟨w.heap.size, 2, none⟩ = some (.int .u32 a.n) := by rw [hW0]; exact cell_of_row _ _ 2 _ 33 _ (heap_alloc_new w _)
  obtain ⟨g, hg⟩ : ∃ g, g = getM M a.key := ⟨_, rfl⟩
  have hg0 := hgo.get0 a.key
  have hg1 := hgo.get1 hm0 a.key
  have hD2 := hD.out
  have hR2 := hR.out
  rw [← hg] at hD2 hg0 hg1 hc hge
  rw [← hge] at hR2
  have hD := hid hD2
  have hR := hid hR2
  have H0 := hid h0
  have HG := hid hg
  have HGE := hid hge
  have HGO := hid hgo
  have HW := hid hW0
  have F0 := hid f0
  have hb := t0.ltb
  have hwb : b < w.heap.size := h.tl.ltb
  have HDN := hid hd
  clear hD2 hR2 h0 t0 hg hge hgo h f0 hW0 hd
  obtain ⟨k0, k1⟩ := hk
  obtain ⟨n0, n1⟩ := hx
  go_enter Try.func9, Try.ntmps9
  go_wp2_with fail
  rw [← HW.out]
  refine hD.out.mono ?_
  rintro e w1 ⟨rfl, hw1⟩
  subst hw1
  have HR1 := hid (hR.out W0 H0.out.rf)
  go_wp2_with fail
  refine HR1.out.mono ?_
  rintro e w2 ⟨rfl, ⟨lv2, r2⟩, f2⟩
  have R2 := hid r2
  have F2 := hid f2
  clear r2 f2 HR1 hR hD
  go_wp2
  go_ret
  refine ⟨⟨_, rfl⟩, ⟨_, _, lv2, ⟨H0.out.tl.fr F2.out (by have := H0.out.pq; omega) (by have := H0.out.bq; omega) |>.mono (by omega), R2.out, H0.out.gr.set _ _ (by omega) (by omega), ?_, H0.out.pq, H0.out.bq, ?_⟩⟩, ?_⟩
  · rw [nz_set H0.out.gr.rise _ _ (by omega), H0.out.eq]
    rw [HG.out]
    exact set_self HGO.out _
  · have := setR_len R a.key (g) H0.out.gr.rise
    have := H0.out.len
    omega
  · exact (F0.out.mono (fun _ h _ => h.elim)).trans F2.out (fun j hj _ => .inr hj)

theorem Do_any (w : World) (p b n q : Nat) (most : Int) (M R : TM) (lv : Value) (a : Act3) (h : PairW w p b n q most M R lv) (hn : n ≤ 1000) (hk : U64 a.key) (hx : U32 a.n) :
    Calls Try.prog 9 #[.pointer (some ⟨p, 0, none⟩), .pointer (some ⟨q, 0, none⟩), .agg #[.bool a.down, .int .u64 a.key, .int .u32 a.n]] w (DoPost p b n q most w) := by
  rcases Bool.eq_false_or_eq_true a.down with hd | hd
  · by_cases hc : a.n ≤ getM M a.key
    · exact Do_down_yes w p b n q most M R lv a h hn hk hx hd hc
    · exact Do_down_no w p b n q most M R lv a h hn hk hx hd (by omega)
  · by_cases hc : getM M a.key + a.n ≤ most
    · exact Do_up_yes w p b n q most M R lv a h hn hk hx hd hc
    · exact Do_up_no w p b n q most M R lv a h hn hk hx hd (by omega)
end Go.Proofs.Ytmmmjkmhlkkdkaa
