/-
  The program's Decode.
-/
import Derived.Test.YtgfimkeopohjaaaDoorCmD
import Derived.Test.YtgfimkeopohjaaaDoorCmC
import Derived.Test.YtgfimkeopohjaaaDoorClLd
namespace Go.Proofs.YtgfimkeopohjaaaDoor
open Go Go.ChangeShapes Go.WideShapes Go.ChangeAt Go.RowKit

theorem dec_no {b : List Int} (hb : Byt b) (h : decR b = none) : decM b = ([], false) := by
  have := dec_r hb
  rw [h] at this
  exact this
theorem results_cells2 {P : Program} {fn : Func} {p q : Tmp} {t1 t2 : TypeId} {a1 a2 : Addr} {v1 v2 : Value} {tmps : Array Value} {w : World} (h : fn.results = #[.cell p t1, .cell q t2]) (h1 : tmps.getD p undef = .pointer (some a1)) (h2 : tmps.getD q undef = .pointer (some a2))
    (l1 : (loadVar t1 a1).run P w = .ok v1 w) (l2 : (loadVar t2 a2).run P w = .ok v2 w) : (results fn tmps).run P w = .ok (.tuple #[v1, v2]) w := by
  simp only [results, h]
  have e1 : tmps[p]?.getD undef = .pointer (some a1) := by simpa using h1
  have e2 : tmps[q]?.getD undef = .pointer (some a2) := by simpa using h2
  simp [Sem.run_bind, Result.andThen, e1, e2, asAddr, l1, l2]
set_option maxRecDepth 100000 in
theorem load_mod {W : World} {bm : Nat} {u : Value} (h : Boxed W bm 24 u) : (loadVar 24 ⟨bm, 0, none⟩).run Tryd.prog W = .ok (.agg #[u]) W :=
  run_loadVar_row (P := Tryd.prog) _ bm 24 24 #[u] (0, 0) _ h Tryd.underlying24 rfl (by kernel_rfl)
set_option maxRecDepth 100000 in
theorem load_err {W : World} {be : Nat} {z : Int} (h : Boxed W be 27 (.int .i64 z)) : (loadVar 27 ⟨be, 0, none⟩).run Tryd.prog W = .ok (.int .i64 z) W := by
  have hc := h.cell
  cases hq : Tryd.prog.info? 27 with
  | none => have : (Tryd.prog.info? 27).map (·.size) = some 1 := by kernel_rfl
            simp [hq] at this
  | some i =>
    have hi : i.size = 1 := by
      have : (Tryd.prog.info? 27).map (·.size) = some 1 := by kernel_rfl
      simpa [hq] using this
    simp [loadVar, sizeOf, typeInfo, hq, hi, loadCells, hc]
/-- The deferred call of Decode. -/
def dfr (bm be : Nat) : List Deferred := [{ target := Target.fn (Fn.func 36) #[.pointer (some ⟨bm, 0, none⟩), .pointer (some ⟨be, 0, none⟩)], args := #[] }]
set_option maxRecDepth 100000 in
set_option maxHeartbeats 4000000 in
theorem gave {w W : World} {b : List Int} {bm be : Nat} {u v : Value} {tmps : Array Value} (hm : Boxed W bm 24 u) (he : Boxed W be 27 v) (hne : bm ≠ be) (hb : Below w.heap.size w W) (hbm : w.heap.size ≤ bm) (hbe : w.heap.size ≤ be)
    (h2 : tmps.getD 2 undef = .pointer (some ⟨bm, 0, none⟩)) (h3 : tmps.getD 3 undef = .pointer (some ⟨be, 0, none⟩)) (hd : decM b = ([], false)) :
    Leaves Tryd.prog Tryd.f18 tmps (DeP w b) (dfr bm be) (.panicking [{ v := .iface 79 (.agg #[]), recovered := false }]) W := by
  refine leaves_cons (f := 36) (args := #[.pointer (some ⟨bm, 0, none⟩), .pointer (some ⟨be, 0, none⟩)]) (by simp) (by simp [go_sem]) ?_
  refine (catch_up bm be hne u v [] W hm he).mono ?_
  rintro e u' w'' ⟨rfl, rfl, rfl⟩
  show Leaves _ _ _ _ [] .returning _
  have hm2 : Boxed (caughtW W bm be) bm 24 nilV := ((hm.alloc _).set _).other (by simp; omega) _
  have he2 : Boxed (caughtW W bm be) be 27 (.int .i64 5) := ((he.alloc _).other (by simp; omega) _).set _
  refine ⟨.tuple #[.agg #[nilV], .int .i64 5], results_cells2 rfl h2 h3 (load_mod hm2) (load_err he2), ?_⟩
  unfold DeP
  rw [hd]
  refine ⟨none, 0, rfl, ⟨fun h => absurd h (by simp), fun b o h => by cases h⟩, Nat.le_refl _, by omega, ?_⟩
  exact ((hb.alloc hb.size _).setCell (by show w.heap.size ≤ bm; omega) _).setCell (by show w.heap.size ≤ be; omega) _
theorem dec_yes {b : List Int} (hb : Byt b) {l : List Cls} (h : rdMod b = some (l, [])) (hc : (chkM l).2 = 0) : decM b = (l, true) := by
  have := dec_r hb
  unfold decR at this
  rw [h] at this
  simpa [hc] using this
theorem dec_non {b : List Int} (hb : Byt b) (h : rdMod b = none ∨ (∃ l x r, rdMod b = some (l, x :: r)) ∨ ∃ l, rdMod b = some (l, []) ∧ (chkM l).2 ≠ 0) : decM b = ([], false) := by
  refine dec_no hb ?_
  unfold decR
  rcases h with h | ⟨l, x, r, h⟩ | ⟨l, h, hc⟩
  · rw [h]
  · rw [h]
  · rw [h]
    simp [hc]
set_option maxRecDepth 100000 in
set_option maxHeartbeats 8000000 in
theorem Decode_any (w : World) (hT : TabB w) (b : List Int) (ad : Option Addr) (n cap : Nat) (hbs : Bs w w.heap.size ad b) (hn : n = b.length) (hby : Byt b) (hc : n ≤ cap) (hcm : cap ≤ 9223372036854775807) :
    Calls Tryd.prog 18 #[.slice ad n cap] w (DeP w b) := by
  have hmf : ∀ (fn : Fn) (first cap : Array Value) (w : World), (Instr.makeFunc fn first cap).run Tryd.prog w = .ok (.func fn first cap) w := fun _ _ _ _ => rfl
  subst hn
  obtain ⟨w3, hw3⟩ : ∃ w3, w3 = ((w.alloc (.cells #[nilV] 24)).alloc (.cells #[.int .i64 0] 27)).alloc (.cells #[.slice ad b.length cap] 82) := ⟨_, rfl⟩
  have hb3 : Below w.heap.size w w3 := by rw [hw3]; exact (((Below.refl _ _).alloc (Nat.le_refl _) _).alloc (by simp) _).alloc (by simp; omega) _
  have hz3 : w3.heap.size = w.heap.size + 3 := by rw [hw3]; simp
  have h0 : Boxed w3 w.heap.size 24 nilV := by rw [hw3]; exact ((Boxed.new w _ _).alloc _).alloc _
  have h1 : Boxed w3 (w.heap.size + 1) 27 (.int .i64 0) := by
    rw [hw3]
    have := (Boxed.new (w.alloc (.cells #[nilV] 24)) 27 (.int .i64 0)).alloc (.cells #[.slice ad b.length cap] 82)
    rwa [show (w.alloc (.cells #[nilV] 24)).heap.size = w.heap.size + 1 by simp] at this
  have h2 : Boxed w3 (w.heap.size + 1 + 1) 82 (.slice ad b.length cap) := by
    rw [hw3]
    have := Boxed.new ((w.alloc (.cells #[nilV] 24)).alloc (.cells #[.int .i64 0] 27)) 82 (.slice ad b.length cap)
    rwa [show ((w.alloc (.cells #[nilV] 24)).alloc (.cells #[.int .i64 0] 27)).heap.size = w.heap.size + 1 + 1 by simp] at this
  have HR3 := hid (show Rd w3 (w.heap.size + 1 + 1) b from ⟨⟨ad, cap, h2, (hbs.below hb3).mono (by omega), hc, hcm⟩, hby⟩)
  have HB3 := hid hb3
  have H0 := hid h0
  have H1 := hid h1
  have HW := hid hw3
  have HT := hid hT
  have HBY := hid hby
  have HZ3 := hid hz3
  clear hbs hc hcm hb3 h0 h1 h2 hw3 hT hby hz3
  go_enter_defers Tryd.func18, Tryd.ntmps18
  go_upto_region 3 with (fail)
  change Code.wp _ _ _ _ (((w.alloc (.cells #[nilV] 24)).alloc (.cells #[.int .i64 0] 27)).alloc (.cells #[.slice ad b.length cap] 82))
  rw [← HW.out]
  clear HW hmf
  obtain ⟨bm, hbm⟩ : ∃ bm, bm = w.heap.size := ⟨_, rfl⟩
  obtain ⟨be, hbe⟩ : ∃ be, be = w.heap.size + 1 := ⟨_, rfl⟩
  obtain ⟨rb, hrb⟩ : ∃ rb, rb = w.heap.size + 1 + 1 := ⟨_, rfl⟩
  rw [← hrb] at HR3
  rw [← hbm] at H0
  rw [← hbe] at H1
  rw [← hrb, ← hbe, ← hbm]
  have hne : bm ≠ be := by omega
  have h3m : bm ≠ rb := by omega
  have h3e : be ≠ rb := by omega
  have hlm : w.heap.size ≤ bm := by omega
  have hle : w.heap.size ≤ be := by omega
  have hlr : w.heap.size ≤ rb := by omega
  have HLM := hid (show bm < w3.heap.size ∧ be < w3.heap.size by have := HZ3.out; omega)
  clear hbm hbe hrb
  go_wp2_with fail
  refine (readModule_any w3 rb b HR3.out).mono ?_
  rintro e w4 he
  obtain ⟨hf, he | ⟨l, r2, v, h1, rfl, hz, hR⟩⟩ := he.open
  · obtain ⟨h1, rfl⟩ := he
    have hb4 : Below w.heap.size w w4 := HB3.out.trans (hf.below HB3.out.size (fun k hk => by omega))
    exact gave (keepB hf H0.out h3m) (keepB hf H1.out h3e) hne hb4 hlm hle rfl rfl (dec_non HBY.out (.inl h1))
  obtain ⟨u, rfl, hzs⟩ := hz
  obtain ⟨g, hu, _⟩ := id hzs
  have hb4 : Below w.heap.size w w4 := HB3.out.trans (hf.below HB3.out.size (fun k hk => by omega))
  have hm4 : Boxed w4 bm 24 nilV := keepB hf H0.out h3m
  have he4 : Boxed w4 be 27 (.int .i64 0) := keepB hf H1.out h3e
  obtain ⟨a4, c4, hbx4, _⟩ := hR.ex
  have hfr : Fr (fun j => j = bm) w4 (w4.setCell ⟨bm, 0, none⟩ u) := (Fr.refl _ _).setCell _ _ (fun _ => rfl)
  have HM5 := hid (hm4.set u)
  have HE5 := hid (he4.other (show be ≠ bm by omega) u)
  have HX5 := hid (hbx4.other (show rb ≠ bm by omega) u)
  have HB5 := hid (hb4.setCell (p := ⟨bm, 0, none⟩) hlm u)
  have HZS := hid (hzs.kept (W' := w4.setCell ⟨bm, 0, none⟩ u) (fun b hb => hfr.block b hb.2 (by have := hb.1; have := HLM.out.1; omega)) hfr.size)
  have H1R := hid h1
  have c0 := hm4.cell
  have f0 := hm4.frozen
  subst hu
  clear hf hzs hR hb4 hm4 he4 hbx4 hfr h1 HR3 HB3 H0 H1 he
  go_upto_region 4 with (fail)
  change Code.wp _ _ _ _ (w4.setCell ⟨bm, 0, none⟩ (.slice (some ⟨g, 0, none⟩) l.length l.length))
  obtain ⟨w5, hw5⟩ : ∃ x, x = w4.setCell ⟨bm, 0, none⟩ (.slice (some ⟨g, 0, none⟩) l.length l.length) := ⟨_, rfl⟩
  obtain ⟨m, hm⟩ : ∃ m, m = l.length := ⟨_, rfl⟩
  rw [← hm] at hw5
  rw [← hm, ← hw5] at HM5 HE5 HX5 HB5 HZS
  rw [← hm, ← hw5]
  have HSZ := hid (show w4.heap.size ≤ w5.heap.size by rw [hw5]; simp)
  have HML := hid hm
  have HL255 := hid (show m ≤ 255 by obtain ⟨_, e1, _, _, e2, _⟩ := HZS.out; omega)
  clear hw5 c0 f0 hm
  go_wp2_with fail
  refine (end_any w5 rb r2 a4 c4 HX5.out).mono ?_
  rintro e w5x ⟨hwx, he⟩
  rw [hwx]
  clear hwx
  cases r2 with
  | cons x r2 =>
    subst he
    exact gave HM5.out HE5.out hne HB5.out hlm hle rfl rfl (dec_non HBY.out (.inr (.inl ⟨l, x, r2, H1R.out⟩)))
  | nil =>
  subst he
  have HT5 := hid (HT.out.on HB5.out)
  have HRW := hid (show RwC w5 w5.heap.size (some ⟨g, 0, none⟩) l by
    obtain ⟨g', e1, e2⟩ := HZS.out.rw
    cases e1
    exact e2)
  have hrm := rdMod_bwd HBY.out H1R.out
  have HCK := hid (CheckM_any w5 HT5.out (some ⟨g, 0, none⟩) m m l HRW.out HML.out (by have := hrm.2.1; have := HML.out; omega) (Nat.le_refl _) fun c hc => by have := (hrm.2.2 c hc).nf; omega)
  have c0 := HM5.out.cell
  obtain ⟨k1, hk1⟩ : ∃ k, k = (chkM l).1 := ⟨_, rfl⟩
  obtain ⟨k2, hk2⟩ : ∃ k, k = (chkM l).2 := ⟨_, rfl⟩
  rw [← hk1, ← hk2] at HCK
  have HK2 := hid hk2
  clear hk1 hk2 hrm HX5 HT5
  go_wp2_with fail
  refine HCK.out.mono ?_
  rintro e w6 ⟨rfl, hb6⟩
  have HB6 := hid (HB5.out.trans (hb6.mono HB5.out.size))
  have HM6 := hid (show Boxed w6 bm 24 (.slice (some ⟨g, 0, none⟩) m m) from (hb6.block _ HM5.out.lt).trans HM5.out)
  have HE6 := hid (show Boxed w6 be 27 (.int .i64 0) from (hb6.block _ HE5.out.lt).trans HE5.out)
  have HS6 := hid hb6.size
  have HZ6 := hid (HZS.out.kept (W' := w6) (fun b hb => hb6.block b (by have h1 := hb.2; have h2 := HSZ.out; omega)) hb6.size)
  clear hb6 HCK c0 HB5 HM5 HE5 HRW HZS
  by_cases h0 : k2 = 0
  case neg =>
    have d0 : (k2 != 0) = true := by simpa using h0
    have HN := hid h0
    clear h0
    go_wp2_with fail
    refine (giveUp_any _).mono ?_
    rintro e _ ⟨rfl, rfl⟩
    exact gave HM6.out HE6.out hne HB6.out hlm hle rfl rfl (dec_non HBY.out (.inr (.inr ⟨l, H1R.out, by rw [← HK2.out]; exact HN.out⟩)))
  have d0 : (k2 != 0) = false := by simpa using h0
  have HD := hid (dec_yes HBY.out H1R.out (by rw [← HK2.out]; exact h0))
  have c0 := HM6.out.cell
  have f0 := HM6.out.frozen
  have c1 := HE6.out.cell
  have f1 := HE6.out.frozen
  clear h0 H1R HK2
  go_wp2
  obtain ⟨w8, hw8⟩ : ∃ x, x = (w6.setCell ⟨bm, 0, none⟩ (.slice (some ⟨g, 0, none⟩) m m)).setCell ⟨be, 0, none⟩ (.int .i64 0) := ⟨_, rfl⟩
  rw [← hw8]
  have hf1 : Fr (fun j => j = bm ∨ j = be) w6 w8 := by
    rw [hw8]
    exact ((Fr.refl _ _).setCell _ _ (fun _ => .inl rfl)).setCell _ _ (fun _ => .inr rfl)
  have hm8 : Boxed w8 bm 24 (.slice (some ⟨g, 0, none⟩) m m) := by rw [hw8]; exact (HM6.out.set _).other hne _
  have he8 : Boxed w8 be 27 (.int .i64 0) := by rw [hw8]; exact (HE6.out.other (by simp; omega) _).set _
  have hb8 : Below w.heap.size w w8 := by rw [hw8]; exact (HB6.out.setCell (p := ⟨bm, 0, none⟩) hlm _).setCell (p := ⟨be, 0, none⟩) hle _
  have hz8 := HZ6.out.kept (W' := w8) (fun b hb => hf1.block b (by have h1 := hb.2; have h2 := HSZ.out; have h3 := HS6.out; omega) (by have h1 := hb.1; have h2 := HLM.out; omega)) hf1.size
  refine leaves_cons (f := 36) (args := #[.pointer (some ⟨bm, 0, none⟩), .pointer (some ⟨be, 0, none⟩)]) (by simp) (by simp [go_sem]) ?_
  refine (catch_idle _ _ _).mono ?_
  rintro e u' w9 ⟨rfl, rfl, rfl⟩
  show Leaves _ _ _ _ [] .returning _
  refine ⟨.tuple #[.agg #[.slice (some ⟨g, 0, none⟩) m m], .int .i64 0], results_cells2 rfl rfl rfl (load_mod hm8) (load_err he8), ?_⟩
  obtain ⟨g', e1, e2⟩ := hz8.rw
  cases e1
  unfold DeP
  rw [HD.out]
  exact ⟨some ⟨g, 0, none⟩, l.length, rfl, e2, Nat.le_refl _, by have := HL255.out; omega, hb8⟩
theorem Decode_holds (w0 : World) (hT : TabB w0) : DeC w0 := fun b ad n cap w hb h hn hby hc hcm _ => Decode_any w (hT.on hb) b ad n cap h hn hby hc hcm
end Go.Proofs.YtgfimkeopohjaaaDoor
