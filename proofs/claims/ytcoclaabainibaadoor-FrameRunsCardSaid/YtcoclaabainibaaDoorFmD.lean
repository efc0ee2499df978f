/-
  The program's do: an instruction that needs nobody else. (Written by tools/genfmd.py.)
-/
import Derived.Test.YtcoclaabainibaaDoorFmB
namespace Go.Proofs.YtcoclaabainibaaDoor
open Go Go.ChangeShapes Go.WideShapes Go.ChangeAt Go.RowKit

def Fs.wM (f : Fs) (m : Mo) : Fs := ⟨f.code, f.arg, m.p, m.st, f.calls, f.over⟩
/-- What do leaves. -/
def DoP (w : World) (S : Nat → Prop) (p : Nat) (f : Fs) (qv : Value) (x : Ins) (v : Int) (e : Ending) (w' : World) : Prop :=
  e = .returned (iv (stp f.arg x ⟨f.p, f.st, v⟩).v) ∧ (∃ sv2, FmW w' (exS S w w') p (f.wM (stp f.arg x ⟨f.p, f.st, v⟩)) qv sv2) ∧ Fr S w w'
theorem last_split {l : List Int} {n : Nat} (h : n = l.length) (h1 : 1 ≤ n) : ∃ r y, l = r ++ [y] ∧ r = l.dropLast ∧ y = top l ∧ r.length + 1 = n := by
  have hne : l ≠ [] := fun e => by subst e; simp at h; omega
  refine ⟨l.dropLast, l.getLast hne, (List.dropLast_concat_getLast hne).symm, rfl, ?_, by rw [List.length_dropLast]; omega⟩
  unfold top
  rw [List.getLastD_eq_getLast?, List.getLast?_eq_some_getLast hne]; rfl
section
variable {w : World} {S : Nat → Prop} {p : Nat} {f : Fs} {qv sv : Value}
set_option maxHeartbeats 4000000 in
set_option maxRecDepth 100000 in
theorem do_1 (a b v : Int) (h : FmW w S p f qv sv) (hp : f.p ≤ 1000) (h9 : f.st.length ≤ 900) : Calls Tryd.prog 22 #[.pointer (some ⟨p, 0, none⟩), .agg (insA ⟨1, a, b⟩), iv v] w (DoP w S p f qv ⟨1, a, b⟩ v) := by
  obtain ⟨w1, hw1⟩ : ∃ w1, w1 = w.alloc (.cells (insA ⟨1, a, b⟩) TIn) := ⟨_, rfl⟩
  have hb1 : Fr (fun _ => False) w w1 := by rw [hw1]; exact (Fr.refl _ _).alloc _
  have hI : InI w1 w.heap.size ⟨1, a, b⟩ := by rw [hw1]; exact heap_alloc_new _ _
  have hlt := h.lt
  have h1 := h.no hb1
  obtain ⟨n, hn⟩ : ∃ n, n = f.p := ⟨_, rfl⟩
  obtain ⟨n1, hn1⟩ : ∃ n1, n1 = n + 1 := ⟨_, rfl⟩
  have hs : ((n : Int) + 1) = (n1 : Int) := by omega
  have hwn := IntWalk.i64_in (n1 : Int) (by omega)
  have c2 := h1.c2
  have z2 := h1.fz 2
  rw [← hn] at c2
  obtain ⟨k1, k2⟩ := h1.put1 2 (nI n1) (f2 := f.wP n1) rfl rfl rfl rfl
  obtain ⟨w2, hw2⟩ : ∃ w2, w2 = w1.setCell ⟨p, 2, none⟩ (nI n1) := ⟨_, rfl⟩
  rw [← hw2] at k1 k2
  have hI2 : InI w2 w.heap.size ⟨1, a, b⟩ := by
    rw [hw2]
    exact (Below.heap_setCell w1 ⟨p, 2, none⟩ (nI n1) w.heap.size (fun e => by simp only at e; omega)).trans hI
  have i0 := hI2.c0
  have i1 := hI2.c1
  simp only at i0 i1
  have hk := k1.up (S2 := exS S w w2) (fun k hk => .inl hk) (fun k hk => by
    rcases hk with e | e
    · exact k1.sl k e
    · exact e.2)
  have hf2 : Fr S w w2 := (hb1.mono (fun k e _ => e.elim)).trans k2 (fun k hk _ => hk)
  have HK := hid hk
  have HF := hid hf2
  have HN := hid hn
  have HN1 := hid hn1
  have HSL := hid h.sl
  have HW1 := hid hw1
  have HW2 := hid hw2
  clear h hb1 hI hI2 h1 k1 k2 hk hf2 hn hn1 hw1 hw2 hlt hp
  go_enter Tryd.func22, Tryd.ntmps22
  go_upto_region 1 with fail
  change Code.wp _ _ _ _ (w.alloc (.cells (insA ⟨1, a, b⟩) TIn))
  rw [← HW1.out]
  go_upto_region 2 with fail
  change Code.wp _ _ _ _ (w1.setCell ⟨p, 2, none⟩ (nI n1))
  rw [← HW2.out]
  clear c2 z2 hs hwn HW1 HW2
  go_wp2_with fail
  refine (lay_any a HK.out (by show f.st.length ≤ 1000; omega)).mono ?_
  rintro e w3 ⟨⟨u, rfl⟩, ⟨sv3, h3⟩, hf3⟩
  have H3 := hid h3
  have HF3 := hid hf3
  clear h3 hf3
  go_wp2_with fail
  go_ret
  refine ⟨rfl, ⟨sv3, ?_⟩, HF.out.trans HF3.out (fun k hk hl => by rcases hk with e | e; exact e; exact absurd e.1 (by omega))⟩
  have h3 := H3.out.to (S := S) (w0 := w) HF.out.size HF3.out.size (fun k hk => Nat.lt_of_lt_of_le (HSL.out k hk) (Nat.le_trans HF.out.size HF3.out.size))
  rw [HN1.out, HN.out] at h3
  exact h3
set_option maxHeartbeats 4000000 in
set_option maxRecDepth 100000 in
theorem do_2 (a b v : Int) (h : FmW w S p f qv sv) (hp : f.p ≤ 1000) (h9 : f.st.length ≤ 900) : Calls Tryd.prog 22 #[.pointer (some ⟨p, 0, none⟩), .agg (insA ⟨2, a, b⟩), iv v] w (DoP w S p f qv ⟨2, a, b⟩ v) := by
  obtain ⟨w1, hw1⟩ : ∃ w1, w1 = w.alloc (.cells (insA ⟨2, a, b⟩) TIn) := ⟨_, rfl⟩
  have hb1 : Fr (fun _ => False) w w1 := by rw [hw1]; exact (Fr.refl _ _).alloc _
  have hI : InI w1 w.heap.size ⟨2, a, b⟩ := by rw [hw1]; exact heap_alloc_new _ _
  have hlt := h.lt
  have h1 := h.no hb1
  obtain ⟨n, hn⟩ : ∃ n, n = f.p := ⟨_, rfl⟩
  obtain ⟨n1, hn1⟩ : ∃ n1, n1 = n + 1 := ⟨_, rfl⟩
  have hs : ((n : Int) + 1) = (n1 : Int) := by omega
  have hwn := IntWalk.i64_in (n1 : Int) (by omega)
  have c2 := h1.c2
  have z2 := h1.fz 2
  rw [← hn] at c2
  obtain ⟨k1, k2⟩ := h1.put1 2 (nI n1) (f2 := f.wP n1) rfl rfl rfl rfl
  obtain ⟨w2, hw2⟩ : ∃ w2, w2 = w1.setCell ⟨p, 2, none⟩ (nI n1) := ⟨_, rfl⟩
  rw [← hw2] at k1 k2
  have hI2 : InI w2 w.heap.size ⟨2, a, b⟩ := by
    rw [hw2]
    exact (Below.heap_setCell w1 ⟨p, 2, none⟩ (nI n1) w.heap.size (fun e => by simp only at e; omega)).trans hI
  have i0 := hI2.c0
  have i1 := hI2.c1
  simp only at i0 i1
  have hk := k1.up (S2 := exS S w w2) (fun k hk => .inl hk) (fun k hk => by
    rcases hk with e | e
    · exact k1.sl k e
    · exact e.2)
  have hf2 : Fr S w w2 := (hb1.mono (fun k e _ => e.elim)).trans k2 (fun k hk _ => hk)
  have HK := hid hk
  have HF := hid hf2
  have HN := hid hn
  have HN1 := hid hn1
  have HSL := hid h.sl
  have HW1 := hid hw1
  have HW2 := hid hw2
  have c1 := hk.c1
  clear h hb1 hI hI2 h1 k1 k2 hk hf2 hn hn1 hw1 hw2 hlt hp
  go_enter Tryd.func22, Tryd.ntmps22
  go_upto_region 1 with fail
  change Code.wp _ _ _ _ (w.alloc (.cells (insA ⟨2, a, b⟩) TIn))
  rw [← HW1.out]
  go_upto_region 2 with fail
  change Code.wp _ _ _ _ (w1.setCell ⟨p, 2, none⟩ (nI n1))
  rw [← HW2.out]
  clear c2 z2 hs hwn HW1 HW2
  go_wp2_with fail
  refine (lay_any f.arg HK.out (by show f.st.length ≤ 1000; omega)).mono ?_
  rintro e w3 ⟨⟨u, rfl⟩, ⟨sv3, h3⟩, hf3⟩
  have H3 := hid h3
  have HF3 := hid hf3
  clear h3 hf3 c1
  go_wp2_with fail
  go_ret
  refine ⟨rfl, ⟨sv3, ?_⟩, HF.out.trans HF3.out (fun k hk hl => by rcases hk with e | e; exact e; exact absurd e.1 (by omega))⟩
  have h3 := H3.out.to (S := S) (w0 := w) HF.out.size HF3.out.size (fun k hk => Nat.lt_of_lt_of_le (HSL.out k hk) (Nat.le_trans HF.out.size HF3.out.size))
  rw [HN1.out, HN.out] at h3
  exact h3
set_option maxHeartbeats 4000000 in
set_option maxRecDepth 100000 in
theorem do_3 (a b v : Int) (h : FmW w S p f qv sv) (hp : f.p ≤ 1000) (h9 : f.st.length ≤ 900) : Calls Tryd.prog 22 #[.pointer (some ⟨p, 0, none⟩), .agg (insA ⟨3, a, b⟩), iv v] w (DoP w S p f qv ⟨3, a, b⟩ v) := by
  obtain ⟨w1, hw1⟩ : ∃ w1, w1 = w.alloc (.cells (insA ⟨3, a, b⟩) TIn) := ⟨_, rfl⟩
  have hb1 : Fr (fun _ => False) w w1 := by rw [hw1]; exact (Fr.refl _ _).alloc _
  have hI : InI w1 w.heap.size ⟨3, a, b⟩ := by rw [hw1]; exact heap_alloc_new _ _
  have hlt := h.lt
  have h1 := h.no hb1
  obtain ⟨n, hn⟩ : ∃ n, n = f.p := ⟨_, rfl⟩
  obtain ⟨n1, hn1⟩ : ∃ n1, n1 = n + 1 := ⟨_, rfl⟩
  have hs : ((n : Int) + 1) = (n1 : Int) := by omega
  have hwn := IntWalk.i64_in (n1 : Int) (by omega)
  have c2 := h1.c2
  have z2 := h1.fz 2
  rw [← hn] at c2
  obtain ⟨k1, k2⟩ := h1.put1 2 (nI n1) (f2 := f.wP n1) rfl rfl rfl rfl
  obtain ⟨w2, hw2⟩ : ∃ w2, w2 = w1.setCell ⟨p, 2, none⟩ (nI n1) := ⟨_, rfl⟩
  rw [← hw2] at k1 k2
  have hI2 : InI w2 w.heap.size ⟨3, a, b⟩ := by
    rw [hw2]
    exact (Below.heap_setCell w1 ⟨p, 2, none⟩ (nI n1) w.heap.size (fun e => by simp only at e; omega)).trans hI
  have i0 := hI2.c0
  have i1 := hI2.c1
  simp only at i0 i1
  have hk := k1.up (S2 := exS S w w2) (fun k hk => .inl hk) (fun k hk => by
    rcases hk with e | e
    · exact k1.sl k e
    · exact e.2)
  have hf2 : Fr S w w2 := (hb1.mono (fun k e _ => e.elim)).trans k2 (fun k hk _ => hk)
  have HK := hid hk
  have HF := hid hf2
  have HN := hid hn
  have HN1 := hid hn1
  have HSL := hid h.sl
  have HW1 := hid hw1
  have HW2 := hid hw2
  clear h hb1 hI hI2 h1 k1 k2 hk hf2 hn hn1 hw1 hw2 hlt hp
  go_enter Tryd.func22, Tryd.ntmps22
  go_upto_region 1 with fail
  change Code.wp _ _ _ _ (w.alloc (.cells (insA ⟨3, a, b⟩) TIn))
  rw [← HW1.out]
  go_upto_region 2 with fail
  change Code.wp _ _ _ _ (w1.setCell ⟨p, 2, none⟩ (nI n1))
  rw [← HW2.out]
  clear c2 z2 hs hwn HW1 HW2
  go_wp2_with fail
  refine (lay_any v HK.out (by show f.st.length ≤ 1000; omega)).mono ?_
  rintro e w3 ⟨⟨u, rfl⟩, ⟨sv3, h3⟩, hf3⟩
  have H3 := hid h3
  have HF3 := hid hf3
  clear h3 hf3
  go_wp2_with fail
  go_ret
  refine ⟨rfl, ⟨sv3, ?_⟩, HF.out.trans HF3.out (fun k hk hl => by rcases hk with e | e; exact e; exact absurd e.1 (by omega))⟩
  have h3 := H3.out.to (S := S) (w0 := w) HF.out.size HF3.out.size (fun k hk => Nat.lt_of_lt_of_le (HSL.out k hk) (Nat.le_trans HF.out.size HF3.out.size))
  rw [HN1.out, HN.out] at h3
  exact h3
set_option maxHeartbeats 4000000 in
set_option maxRecDepth 100000 in
theorem do_4 (a b v : Int) (h : FmW w S p f qv sv) (hp : f.p ≤ 1000) (h9 : f.st.length ≤ 900) (hd : 1 ≤ f.st.length) : Calls Tryd.prog 22 #[.pointer (some ⟨p, 0, none⟩), .agg (insA ⟨4, a, b⟩), iv v] w (DoP w S p f qv ⟨4, a, b⟩ v) := by
  obtain ⟨w1, hw1⟩ : ∃ w1, w1 = w.alloc (.cells (insA ⟨4, a, b⟩) TIn) := ⟨_, rfl⟩
  have hb1 : Fr (fun _ => False) w w1 := by rw [hw1]; exact (Fr.refl _ _).alloc _
  have hI : InI w1 w.heap.size ⟨4, a, b⟩ := by rw [hw1]; exact heap_alloc_new _ _
  have hlt := h.lt
  have h1 := h.no hb1
  obtain ⟨n, hn⟩ : ∃ n, n = f.p := ⟨_, rfl⟩
  obtain ⟨n1, hn1⟩ : ∃ n1, n1 = n + 1 := ⟨_, rfl⟩
  have hs : ((n : Int) + 1) = (n1 : Int) := by omega
  have hwn := IntWalk.i64_in (n1 : Int) (by omega)
  have c2 := h1.c2
  have z2 := h1.fz 2
  rw [← hn] at c2
  obtain ⟨k1, k2⟩ := h1.put1 2 (nI n1) (f2 := f.wP n1) rfl rfl rfl rfl
  obtain ⟨w2, hw2⟩ : ∃ w2, w2 = w1.setCell ⟨p, 2, none⟩ (nI n1) := ⟨_, rfl⟩
  rw [← hw2] at k1 k2
  have hI2 : InI w2 w.heap.size ⟨4, a, b⟩ := by
    rw [hw2]
    exact (Below.heap_setCell w1 ⟨p, 2, none⟩ (nI n1) w.heap.size (fun e => by simp only at e; omega)).trans hI
  have i0 := hI2.c0
  have i1 := hI2.c1
  simp only at i0 i1
  have hk := k1.up (S2 := exS S w w2) (fun k hk => .inl hk) (fun k hk => by
    rcases hk with e | e
    · exact k1.sl k e
    · exact e.2)
  have hf2 : Fr S w w2 := (hb1.mono (fun k e _ => e.elim)).trans k2 (fun k hk _ => hk)
  have HK := hid hk
  have HF := hid hf2
  have HN := hid hn
  have HN1 := hid hn1
  have HSL := hid h.sl
  have HW1 := hid hw1
  have HW2 := hid hw2
  obtain ⟨r, y, hry, hr, hy, hrl⟩ := last_split rfl hd
  have HRY := hid hry
  have HR := hid hr
  have HY := hid hy
  clear hry hr hy hd
  clear h hb1 hI hI2 h1 k1 k2 hk hf2 hn hn1 hw1 hw2 hlt hp
  go_enter Tryd.func22, Tryd.ntmps22
  go_upto_region 1 with fail
  change Code.wp _ _ _ _ (w.alloc (.cells (insA ⟨4, a, b⟩) TIn))
  rw [← HW1.out]
  go_upto_region 2 with fail
  change Code.wp _ _ _ _ (w1.setCell ⟨p, 2, none⟩ (nI n1))
  rw [← HW2.out]
  clear c2 z2 hs hwn HW1 HW2
  go_wp2_with fail
  refine (take_any (l := r) (x := y) HK.out HRY.out (by omega)).mono ?_
  rintro e w3 ⟨rfl, ⟨sv3, h3⟩, hf3⟩
  have H3 := hid h3
  have HF3 := hid hf3
  clear h3 hf3
  go_wp2_with fail
  go_ret
  refine ⟨by rw [HY.out]; rfl, ⟨sv3, ?_⟩, HF.out.trans HF3.out (fun k hk hl => by rcases hk with e | e; exact e; exact absurd e.1 (by omega))⟩
  have h3 := H3.out.up (S2 := exS S w w3) (fun k hk => by rcases hk with e | e; exact .inl e; exact .inr ⟨e.1, Nat.lt_of_lt_of_le e.2 HF3.out.size⟩) (fun k hk => by
    rcases hk with e | e
    · exact H3.out.sl k (.inl e)
    · exact e.2)
  rw [HN1.out, HN.out, HR.out] at h3
  exact h3
set_option maxHeartbeats 4000000 in
set_option maxRecDepth 100000 in
theorem do_5 (a b v : Int) (h : FmW w S p f qv sv) (hp : f.p ≤ 1000) (h9 : f.st.length ≤ 900) (hd : 2 ≤ f.st.length) : Calls Tryd.prog 22 #[.pointer (some ⟨p, 0, none⟩), .agg (insA ⟨5, a, b⟩), iv v] w (DoP w S p f qv ⟨5, a, b⟩ v) := by
  obtain ⟨w1, hw1⟩ : ∃ w1, w1 = w.alloc (.cells (insA ⟨5, a, b⟩) TIn) := ⟨_, rfl⟩
  have hb1 : Fr (fun _ => False) w w1 := by rw [hw1]; exact (Fr.refl _ _).alloc _
  have hI : InI w1 w.heap.size ⟨5, a, b⟩ := by rw [hw1]; exact heap_alloc_new _ _
  have hlt := h.lt
  have h1 := h.no hb1
  obtain ⟨n, hn⟩ : ∃ n, n = f.p := ⟨_, rfl⟩
  obtain ⟨n1, hn1⟩ : ∃ n1, n1 = n + 1 := ⟨_, rfl⟩
  have hs : ((n : Int) + 1) = (n1 : Int) := by omega
  have hwn := IntWalk.i64_in (n1 : Int) (by omega)
  have c2 := h1.c2
  have z2 := h1.fz 2
  rw [← hn] at c2
  obtain ⟨k1, k2⟩ := h1.put1 2 (nI n1) (f2 := f.wP n1) rfl rfl rfl rfl
  obtain ⟨w2, hw2⟩ : ∃ w2, w2 = w1.setCell ⟨p, 2, none⟩ (nI n1) := ⟨_, rfl⟩
  rw [← hw2] at k1 k2
  have hI2 : InI w2 w.heap.size ⟨5, a, b⟩ := by
    rw [hw2]
    exact (Below.heap_setCell w1 ⟨p, 2, none⟩ (nI n1) w.heap.size (fun e => by simp only at e; omega)).trans hI
  have i0 := hI2.c0
  have i1 := hI2.c1
  simp only at i0 i1
  have hk := k1.up (S2 := exS S w w2) (fun k hk => .inl hk) (fun k hk => by
    rcases hk with e | e
    · exact k1.sl k e
    · exact e.2)
  have hf2 : Fr S w w2 := (hb1.mono (fun k e _ => e.elim)).trans k2 (fun k hk _ => hk)
  have HK := hid hk
  have HF := hid hf2
  have HN := hid hn
  have HN1 := hid hn1
  have HSL := hid h.sl
  have HW1 := hid hw1
  have HW2 := hid hw2
  obtain ⟨r, y, hry, hr, hy, hrl⟩ := last_split rfl (show 1 ≤ f.st.length by omega)
  obtain ⟨r2, y2, hry2, hr2, hy2, hrl2⟩ := last_split (l := r) rfl (by omega)
  have HRY := hid hry
  have HR := hid hr
  have HY := hid hy
  have HRY2 := hid hry2
  have HR2 := hid hr2
  have HY2 := hid hy2
  obtain ⟨z, hz⟩ : ∃ z, z = w64 (y + y2) := ⟨_, rfl⟩
  have hzz : IntKind.i64.wrap (y + y2) = z := hz.symm
  have HZ := hid hz
  clear hry hr hy hd hry2 hr2 hy2 hz
  clear h hb1 hI hI2 h1 k1 k2 hk hf2 hn hn1 hw1 hw2 hlt hp
  go_enter Tryd.func22, Tryd.ntmps22
  go_upto_region 1 with fail
  change Code.wp _ _ _ _ (w.alloc (.cells (insA ⟨5, a, b⟩) TIn))
  rw [← HW1.out]
  go_upto_region 2 with fail
  change Code.wp _ _ _ _ (w1.setCell ⟨p, 2, none⟩ (nI n1))
  rw [← HW2.out]
  clear c2 z2 hs hwn HW1 HW2
  go_wp2_with fail
  refine (take_any (l := r) (x := y) HK.out HRY.out (by omega)).mono ?_
  rintro e w3 ⟨rfl, ⟨sv3, h3⟩, hf3⟩
  have H3 := hid h3
  have HF3 := hid (HF.out.trans hf3 (fun k hk hl => by rcases hk with e | e; exact e; exact absurd e.1 (by omega)))
  have HS3 := hid hf3.size
  clear h3 hf3
  go_wp2_with fail
  refine (take_any (l := r2) (x := y2) H3.out HRY2.out (by omega)).mono ?_
  rintro e w4 ⟨rfl, ⟨sv4, h4⟩, hf4⟩
  have H4 := hid (h4.up (S2 := exS S w w4) (fun k hk => by rcases hk with e | e; exact .inl e; exact .inr ⟨e.1, Nat.lt_of_lt_of_le e.2 (Nat.le_trans HS3.out hf4.size)⟩) (fun k hk => by
    rcases hk with e | e
    · exact h4.sl k (.inl e)
    · exact e.2))
  have HF4 := hid (HF3.out.trans hf4 (fun k hk hl => by rcases hk with e | e; exact e; exact absurd e.1 (by omega)))
  clear h4 hf4 H3 HF3
  go_wp2_with fail
  refine (lay_any z H4.out (by show r2.length ≤ 1000; omega)).mono ?_
  rintro e w5 ⟨⟨u, rfl⟩, ⟨sv5, h5⟩, hf5⟩
  have H5 := hid h5
  have HF5 := hid hf5
  clear h5 hf5
  go_wp2_with fail
  go_ret
  refine ⟨rfl, ⟨sv5, ?_⟩, HF4.out.trans HF5.out (fun k hk hl => by rcases hk with e | e; exact e; exact absurd e.1 (by omega))⟩
  have h5 := H5.out.to (S := S) (w0 := w) HF4.out.size HF5.out.size (fun k hk => Nat.lt_of_lt_of_le (HSL.out k hk) (Nat.le_trans HF4.out.size HF5.out.size))
  rw [HN1.out, HN.out] at h5
  have e1 : (((f.wP (f.p + 1)).wSt r).wSt r2).wSt ((((f.wP (f.p + 1)).wSt r).wSt r2).st ++ [z]) = f.wM (stp f.arg ⟨5, a, b⟩ ⟨f.p, f.st, v⟩) := by
    rw [HZ.out, HY.out, HY2.out, HR2.out, HR.out]; rfl
  rw [← e1]
  exact h5
set_option maxHeartbeats 4000000 in
set_option maxRecDepth 100000 in
theorem do_6 (a b v : Int) (h : FmW w S p f qv sv) (hp : f.p ≤ 1000) (h9 : f.st.length ≤ 900) (hd : 1 ≤ f.st.length) : Calls Tryd.prog 22 #[.pointer (some ⟨p, 0, none⟩), .agg (insA ⟨6, a, b⟩), iv v] w (DoP w S p f qv ⟨6, a, b⟩ v) := by
  obtain ⟨w1, hw1⟩ : ∃ w1, w1 = w.alloc (.cells (insA ⟨6, a, b⟩) TIn) := ⟨_, rfl⟩
  have hb1 : Fr (fun _ => False) w w1 := by rw [hw1]; exact (Fr.refl _ _).alloc _
  have hI : InI w1 w.heap.size ⟨6, a, b⟩ := by rw [hw1]; exact heap_alloc_new _ _
  have hlt := h.lt
  have h1 := h.no hb1
  obtain ⟨n, hn⟩ : ∃ n, n = f.p := ⟨_, rfl⟩
  obtain ⟨n1, hn1⟩ : ∃ n1, n1 = n + 1 := ⟨_, rfl⟩
  have hs : ((n : Int) + 1) = (n1 : Int) := by omega
  have hwn := IntWalk.i64_in (n1 : Int) (by omega)
  have c2 := h1.c2
  have z2 := h1.fz 2
  rw [← hn] at c2
  obtain ⟨k1, k2⟩ := h1.put1 2 (nI n1) (f2 := f.wP n1) rfl rfl rfl rfl
  obtain ⟨w2, hw2⟩ : ∃ w2, w2 = w1.setCell ⟨p, 2, none⟩ (nI n1) := ⟨_, rfl⟩
  rw [← hw2] at k1 k2
  have hI2 : InI w2 w.heap.size ⟨6, a, b⟩ := by
    rw [hw2]
    exact (Below.heap_setCell w1 ⟨p, 2, none⟩ (nI n1) w.heap.size (fun e => by simp only at e; omega)).trans hI
  have i0 := hI2.c0
  have i1 := hI2.c1
  simp only at i0 i1
  have hk := k1.up (S2 := exS S w w2) (fun k hk => .inl hk) (fun k hk => by
    rcases hk with e | e
    · exact k1.sl k e
    · exact e.2)
  have hf2 : Fr S w w2 := (hb1.mono (fun k e _ => e.elim)).trans k2 (fun k hk _ => hk)
  have HK := hid hk
  have HF := hid hf2
  have HN := hid hn
  have HN1 := hid hn1
  have HSL := hid h.sl
  have HW1 := hid hw1
  have HW2 := hid hw2
  obtain ⟨r, y, hry, hr, hy, hrl⟩ := last_split rfl hd
  have HRY := hid hry
  have HR := hid hr
  have HY := hid hy
  obtain ⟨z, hz⟩ : ∃ z, z = w64 (-y) := ⟨_, rfl⟩
  have hzz : IntKind.i64.wrap (-y) = z := hz.symm
  have HZ := hid hz
  clear hry hr hy hd hz
  clear h hb1 hI hI2 h1 k1 k2 hk hf2 hn hn1 hw1 hw2 hlt hp
  go_enter Tryd.func22, Tryd.ntmps22
  go_upto_region 1 with fail
  change Code.wp _ _ _ _ (w.alloc (.cells (insA ⟨6, a, b⟩) TIn))
  rw [← HW1.out]
  go_upto_region 2 with fail
  change Code.wp _ _ _ _ (w1.setCell ⟨p, 2, none⟩ (nI n1))
  rw [← HW2.out]
  clear c2 z2 hs hwn HW1 HW2
  go_wp2_with fail
  refine (take_any (l := r) (x := y) HK.out HRY.out (by omega)).mono ?_
  rintro e w4 ⟨rfl, ⟨sv4, h4⟩, hf4⟩
  have H4 := hid (h4.up (S2 := exS S w w4) (fun k hk => by rcases hk with e | e; exact .inl e; exact .inr ⟨e.1, Nat.lt_of_lt_of_le e.2 hf4.size⟩) (fun k hk => by
    rcases hk with e | e
    · exact h4.sl k (.inl e)
    · exact e.2))
  have HF4 := hid (HF.out.trans hf4 (fun k hk hl => by rcases hk with e | e; exact e; exact absurd e.1 (by omega)))
  clear h4 hf4
  go_wp2_with fail
  refine (lay_any z H4.out (by show r.length ≤ 1000; omega)).mono ?_
  rintro e w5 ⟨⟨u, rfl⟩, ⟨sv5, h5⟩, hf5⟩
  have H5 := hid h5
  have HF5 := hid hf5
  clear h5 hf5
  go_wp2_with fail
  go_ret
  refine ⟨rfl, ⟨sv5, ?_⟩, HF4.out.trans HF5.out (fun k hk hl => by rcases hk with e | e; exact e; exact absurd e.1 (by omega))⟩
  have h5 := H5.out.to (S := S) (w0 := w) HF4.out.size HF5.out.size (fun k hk => Nat.lt_of_lt_of_le (HSL.out k hk) (Nat.le_trans HF4.out.size HF5.out.size))
  rw [HN1.out, HN.out] at h5
  have e1 : ((f.wP (f.p + 1)).wSt r).wSt (((f.wP (f.p + 1)).wSt r).st ++ [z]) = f.wM (stp f.arg ⟨6, a, b⟩ ⟨f.p, f.st, v⟩) := by
    rw [HZ.out, HY.out, HR.out]; rfl
  rw [← e1]
  exact h5
set_option maxHeartbeats 4000000 in
set_option maxRecDepth 100000 in
theorem do_7 (t : Nat) (b v : Int) (h : FmW w S p f qv sv) (hp : f.p ≤ 1000) (h9 : f.st.length ≤ 900) (hd : 1 ≤ f.st.length) (ha : t ≤ 1000) : Calls Tryd.prog 22 #[.pointer (some ⟨p, 0, none⟩), .agg (insA ⟨7, (t : Int), b⟩), iv v] w (DoP w S p f qv ⟨7, (t : Int), b⟩ v) := by
  obtain ⟨w1, hw1⟩ : ∃ w1, w1 = w.alloc (.cells (insA ⟨7, (t : Int), b⟩) TIn) := ⟨_, rfl⟩
  have hb1 : Fr (fun _ => False) w w1 := by rw [hw1]; exact (Fr.refl _ _).alloc _
  have hI : InI w1 w.heap.size ⟨7, (t : Int), b⟩ := by rw [hw1]; exact heap_alloc_new _ _
  have hlt := h.lt
  have h1 := h.no hb1
  obtain ⟨n, hn⟩ : ∃ n, n = f.p := ⟨_, rfl⟩
  obtain ⟨n1, hn1⟩ : ∃ n1, n1 = n + 1 := ⟨_, rfl⟩
  have hs : ((n : Int) + 1) = (n1 : Int) := by omega
  have hwn := IntWalk.i64_in (n1 : Int) (by omega)
  have c2 := h1.c2
  have z2 := h1.fz 2
  rw [← hn] at c2
  obtain ⟨k1, k2⟩ := h1.put1 2 (nI n1) (f2 := f.wP n1) rfl rfl rfl rfl
  obtain ⟨w2, hw2⟩ : ∃ w2, w2 = w1.setCell ⟨p, 2, none⟩ (nI n1) := ⟨_, rfl⟩
  rw [← hw2] at k1 k2
  have hI2 : InI w2 w.heap.size ⟨7, (t : Int), b⟩ := by
    rw [hw2]
    exact (Below.heap_setCell w1 ⟨p, 2, none⟩ (nI n1) w.heap.size (fun e => by simp only at e; omega)).trans hI
  have i0 := hI2.c0
  have i1 := hI2.c1
  simp only at i0 i1
  have hk := k1.up (S2 := exS S w w2) (fun k hk => .inl hk) (fun k hk => by
    rcases hk with e | e
    · exact k1.sl k e
    · exact e.2)
  have hf2 : Fr S w w2 := (hb1.mono (fun k e _ => e.elim)).trans k2 (fun k hk _ => hk)
  have HK := hid hk
  have HF := hid hf2
  have HN := hid hn
  have HN1 := hid hn1
  have HSL := hid h.sl
  have HW1 := hid hw1
  have HW2 := hid hw2
  obtain ⟨r, y, hry, hr, hy, hrl⟩ := last_split rfl hd
  have HRY := hid hry
  have HR := hid hr
  have HY := hid hy
  obtain ⟨n2, hn2⟩ : ∃ n2, n2 = n1 + t := ⟨_, rfl⟩
  have hs2 : ((n1 : Int) + (t : Int)) = (n2 : Int) := by omega
  have hwn2 := IntWalk.i64_in (n2 : Int) (by omega)
  have HN2 := hid hn2
  have HI := hid hI2
  have HK1 := hid k1
  clear hry hr hy hd hn2 ha
  clear h hb1 hI hI2 h1 k1 k2 hk hf2 hn hn1 hw1 hw2 hlt hp
  go_enter Tryd.func22, Tryd.ntmps22
  go_upto_region 1 with fail
  change Code.wp _ _ _ _ (w.alloc (.cells (insA ⟨7, (t : Int), b⟩) TIn))
  rw [← HW1.out]
  go_upto_region 2 with fail
  change Code.wp _ _ _ _ (w1.setCell ⟨p, 2, none⟩ (nI n1))
  rw [← HW2.out]
  clear c2 z2 hs hwn HW1 HW2
  go_wp2_with fail
  refine (take_any (l := r) (x := y) HK1.out HRY.out (by omega)).mono ?_
  rintro e w3 ⟨rfl, ⟨sv3, h3⟩, hf3⟩
  have H3 := hid h3
  have HF3 := hid (HF.out.trans hf3 (fun k hk _ => hk))
  have c2 := h3.c2
  have z2 := h3.fz 2
  have hil : w.heap.size < w2.heap.size := (Array.getElem?_eq_some_iff.1 HI.out).1
  have i3 : w3.cell? ⟨w.heap.size, 1, none⟩ = some (.int .i64 (t : Int)) := (World.cell?_of_block (w := w2) (w' := w3) (a := ⟨w.heap.size, 1, none⟩) (hf3.block w.heap.size hil (fun e => absurd (HSL.out _ e) (Nat.lt_irrefl _)))).trans i1
  clear h3 hf3 hil
  change w3.cell? ⟨p, 2, none⟩ = some (nI n1) at c2
  by_cases hy0 : y = 0
  · subst hy0
    go_upto_region 17 with fail
    refine D.wp_region_mix [0, 0, 0, 1, 0, 1, 0, 0, 0, 3] (fun W => W.cell? ⟨p, 2, none⟩ = some (nI n1) ∧ W.cell? ⟨w.heap.size, 1, none⟩ = some (iv t)) (by kernel_rfl) (by kernel_rfl) ⟨c2, i3⟩ ?_
    repeat (first
      | (refine' C.wpMix_value _ rfl rfl _ _; rotate_left; (solve | (intro W; go_simp) | (intro W; go_simp; with_reducible rfl)); simp only [Act.put, List.setIfInBounds_toArray, List.set_cons_zero, List.set_cons_succ])
      | (refine' C.wpMix_read _ rfl rfl _ _; rotate_left; (solve | (rintro W ⟨h1, h2⟩; go_simp) | (rintro W ⟨h1, h2⟩; go_simp; with_reducible rfl)); simp only [Act.put, List.setIfInBounds_toArray, List.set_cons_zero, List.set_cons_succ]))
    refine C.wpMix_skip (w3.drew.setCell ⟨p, 2, none⟩ (nI n2)) (by decide) rfl (by go_simp) (fun h => by cases h) ?_
    simp only [Act.put]
    refine C.wpMix_end ?_
    clear c2 z2 i3 i0 i1 hs2 hwn2
    go_wp2_with fail
    go_ret
    obtain ⟨k3, k4⟩ := (H3.out.no ((Fr.refl _ _).drew)).put1 2 (nI n2) (f2 := ((f.wP n1).wSt r).wP n2) rfl rfl rfl rfl
    refine ⟨rfl, ⟨sv3, ?_⟩, HF3.out.drew.trans k4 (fun k hk _ => hk)⟩
    have e1 : ((f.wP n1).wSt r).wP n2 = f.wM (stp f.arg ⟨7, (t : Int), b⟩ ⟨f.p, f.st, v⟩) := by
      unfold stp
      simp only [show ¬ (7 : Int) = 1 by decide, show ¬ (7 : Int) = 2 by decide, show ¬ (7 : Int) = 3 by decide, show ¬ (7 : Int) = 4 by decide, show ¬ (7 : Int) = 5 by decide, show ¬ (7 : Int) = 6 by decide, if_false, if_true]
      rw [← HY.out, HN2.out, HN1.out, HN.out, HR.out]; rfl
    rw [← e1]
    exact k3.up (fun k hk => .inl hk) (fun k hk => by
      rcases hk with e | e
      · exact k3.sl k e
      · exact e.2)
  · have d0 : (y == 0) = false := by simpa using hy0
    clear c2
    have HY0 := hid hy0
    clear hy0
    go_wp2_with fail
    go_ret
    refine ⟨rfl, ⟨sv3, ?_⟩, HF3.out⟩
    have h3 := H3.out.up (S2 := exS S w w3) (fun k hk => .inl hk) (fun k hk => by
      rcases hk with e | e
      · exact H3.out.sl k e
      · exact e.2)
    rw [HN1.out, HN.out] at h3
    have e1 : (f.wP (f.p + 1)).wSt r = f.wM (stp f.arg ⟨7, (t : Int), b⟩ ⟨f.p, f.st, v⟩) := by
      unfold stp
      simp only [show ¬ (7 : Int) = 1 by decide, show ¬ (7 : Int) = 2 by decide, show ¬ (7 : Int) = 3 by decide, show ¬ (7 : Int) = 4 by decide, show ¬ (7 : Int) = 5 by decide, show ¬ (7 : Int) = 6 by decide, if_false, if_true]
      rw [← HY.out, if_neg HY0.out, HR.out]; rfl
    rw [← e1]
    exact h3
end
end Go.Proofs.YtcoclaabainibaaDoor
