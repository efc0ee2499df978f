/-
  The laws of layer 11: HeapNil.
-/
import Derived.Test.YtceokibalphgpaaHpE
namespace Go.Proofs.Ytceokibalphgpaa
open Go Go.ChangeShapes Go.WideShapes Go.ChangeAt Go.RowKit

/-- The contracts of the calls of a heap that is none. -/
structure NilC (w0 : World) : Prop where
  make : ∀ (w : World) (slots outer : Int), Below w0.heap.size w0 w → Nm slots → Hn outer → Calls Try.prog 23 #[.pointer none, .int .i64 slots, .int .u64 outer] w fun e w' => Below w.heap.size w w' ∧ e = .returned (.tuple #[.int .u64 0, .int .i64 3])
  up : ∀ (w : World) (h : Int), Below w0.heap.size w0 w → Hn h → Calls Try.prog 24 #[.pointer none, .int .u64 h] w fun e w' => Below w.heap.size w w' ∧ ∃ n : Int, e = .returned (.tuple #[.int .u32 n, .int .i64 2])
  dn : ∀ (w : World) (h : Int), Below w0.heap.size w0 w → Hn h → Calls Try.prog 25 #[.pointer none, .int .u64 h] w fun e w' => Below w.heap.size w w' ∧ ∃ g f, e = .returned (.tuple #[g, f, .int .i64 2])
  pu : ∀ (w : World) (h slot : Int) (x : Lk), Below w0.heap.size w0 w → Hn h → Nm slot → Nm x.kind → Hn x.h → Calls Try.prog 27 #[.pointer none, .int .u64 h, .int .i64 slot, .agg #[.int .i64 x.kind, .int .u64 x.h]] w fun e w' => Below w.heap.size w w' ∧ ∃ g f, e = .returned (.tuple #[g, f, .int .i64 2])
  va : ∀ (w : World) (h : Int), Below w0.heap.size w0 w → Hn h → Calls Try.prog 29 #[.pointer none, .int .u64 h] w fun e w' => Below w.heap.size w w' ∧ e = .returned (.tuple #[.int .i64 0, .int .i64 2])
  wh : ∀ (w : World) (h : Int), Below w0.heap.size w0 w → Hn h → Calls Try.prog 30 #[.pointer none, .int .u64 h] w fun e w' => Below w.heap.size w w' ∧ ∃ n : Int, e = .returned (.tuple #[.int .u64 n, .int .i64 2])
  rm : ∀ (w : World) (v : Value) (l : List Int), Below w0.heap.size w0 w → Told TU u64v w v l → l ≠ [] → Calls Try.prog 31 #[.pointer none, v] w fun e w' => Below w.heap.size w w' ∧ ∃ g f, e = .returned (.tuple #[g, f, .int .i64 2])
  gr : ∀ (w : World), Below w0.heap.size w0 w → Calls Try.prog 17 #[.pointer none] w fun e w' => Below w.heap.size w w' ∧ ∃ a1 c1 a2 n2 c2 a3 c3, e = .returned (.tuple #[.agg #[.slice a1 0 c1, .slice a2 n2 c2], .slice a3 0 c3])
  st : ∀ (w : World) (h n : Int), Below w0.heap.size w0 w → Hn h → Nm n → Calls Try.prog 32 #[.pointer none, .int .u64 h, .int .i64 n] w fun e w' => Below w.heap.size w w' ∧ e = .returned (.int .i64 2)
  cn : ∀ (w : World) (h : Int), Below w0.heap.size w0 w → Hn h → Calls Try.prog 26 #[.pointer none, .int .u64 h] w fun e w' => Below w.heap.size w w' ∧ e = .returned (.int .u32 0)
  all : ∀ (w : World) (m : Nat), Below w0.heap.size w0 w → m ≤ 100000 → Calls Try.prog 22 #[.pointer none, .int .i64 m] w fun e w' => Below w.heap.size w w' ∧ ∃ a c, e = .returned (.slice a 0 c)
  ln : ∀ (w : World) (h : Int) (m : Nat), Below w0.heap.size w0 w → Hn h → m ≤ 1000 → Calls Try.prog 33 #[.pointer none, .int .u64 h, .int .i64 m] w fun e w' => Below w.heap.size w w' ∧ ∃ a c, e = .returned (.slice a 0 c)
  awk : ∀ (w : World), Below w0.heap.size w0 w → Calls Try.prog 12 #[] w fun e w' => Below w.heap.size w w' ∧ e = .returned (.bool true)
set_option maxRecDepth 100000 in
set_option maxHeartbeats 8000000 in
theorem HeapNil_any (w : World) (HC : NilC w) (h slot : Int) (x : Lk) (hh : Hn h) (hs : Nm slot) (hk : Nm x.kind) (hx : Hn x.h) :
    Calls Try.prog 8 #[.int .u64 h, .int .i64 slot, .agg #[.int .i64 x.kind, .int .u64 x.h]] w fun e w' => e = .returned (.bool true) ∧ Below w.heap.size w w' := by
  have HCC := hid HC
  have HH := hid hh
  have HS := hid hs
  have HK := hid hk
  have HX := hid hx
  obtain ⟨xk, xh⟩ := x
  simp only at HK HX
  clear HC hh hs hk hx
  go_enter Try.func8, Try.ntmps8
  go_wp2_with fail
  obtain ⟨z0, hz⟩ : ∃ z, z = w.alloc (.cells #[.int .i64 xk, .int .u64 xh] 67) := ⟨_, rfl⟩
  have hbx : z0.heap[w.heap.size]? = some (.cells #[.int .i64 xk, .int .u64 xh] 67 (0, 0)) := by rw [hz]; exact heap_alloc_new _ _
  have hbw : Below w.heap.size w z0 := by rw [hz]; exact (Below.refl _ _).alloc (Nat.le_refl _) _
  have hlt : w.heap.size < z0.heap.size := by rw [hz]; simp
  rw [← hz]
  have HBX := hid hbx
  have HBW := hid hbw
  have HLT := hid hlt
  have HWW := hid (fun W (hb : Below z0.heap.size z0 W) => hbw.trans (hb.mono hbw.size))
  have B0 := hid (Below.refl z0.heap.size z0)
  clear hz hbx hbw hlt
  refine (HCC.out.make z0 slot h (HWW.out _ B0.out) HS.out HH.out).mono ?_
  rintro e z1 ⟨hb, rfl⟩
  have B1 := hid (B0.out.trans (hb.mono B0.out.size))
  clear hb B0
  go_wp2_with fail
  refine (HCC.out.up z1 h (HWW.out _ B1.out) HH.out).mono ?_
  rintro e z2 ⟨hb, n1, rfl⟩
  have B2 := hid (B1.out.trans (hb.mono B1.out.size))
  clear hb B1
  go_wp2_with fail
  refine (HCC.out.dn z2 h (HWW.out _ B2.out) HH.out).mono ?_
  rintro e z3 ⟨hb, g2, f2, rfl⟩
  have B3 := hid (B2.out.trans (hb.mono B2.out.size))
  clear hb B2
  have cx : z3.heap[w.heap.size]? = some (.cells #[.int .i64 xk, .int .u64 xh] 67 (0, 0)) := (B3.out.block _ HLT.out).trans HBX.out
  have c0 : z3.cell? ⟨w.heap.size, 0, none⟩ = some (.int .i64 xk) := by simp [World.cell?, cx]
  have c1 : z3.cell? ⟨w.heap.size, 1, none⟩ = some (.int .u64 xh) := by simp [World.cell?, cx]
  go_wp2_with fail
  refine (HCC.out.pu z3 h slot ⟨xk, xh⟩ (HWW.out _ B3.out) HH.out HS.out HK.out HX.out).mono ?_
  rintro e z4 ⟨hb, g3, f3, rfl⟩
  have B4 := hid (B3.out.trans (hb.mono B3.out.size))
  clear hb B3
  clear cx c0 c1
  go_wp2_with fail
  refine (HCC.out.va z4 h (HWW.out _ B4.out) HH.out).mono ?_
  rintro e z5 ⟨hb, rfl⟩
  have B5 := hid (B4.out.trans (hb.mono B4.out.size))
  clear hb B4
  go_wp2_with fail
  refine (HCC.out.wh z5 h (HWW.out _ B5.out) HH.out).mono ?_
  rintro e z6 ⟨hb, n5, rfl⟩
  have B6 := hid (B5.out.trans (hb.mono B5.out.size))
  clear hb B5
  go_wp2_with fail
  obtain ⟨zr, hz⟩ : ∃ z, z = z6.alloc (.cells #[.int .u64 h] 34) := ⟨_, rfl⟩
  have hbr : Below z6.heap.size z6 zr := by rw [hz]; exact (Below.refl _ _).alloc (Nat.le_refl _) _
  have hr7 : RowS TU u64v (fun _ => False) z6.heap.size zr (.slice (some ⟨z6.heap.size, 0, none⟩) 1 1) [h] := ⟨by rw [hz]; exact World.ownsRow_lit z6 #[.int .u64 h] 1 (Nat.le_refl _) (by unfold maxLen; omega) rfl, fun _ _ h => h⟩
  rw [← hz]
  have BR := hid (B6.out.trans (hbr.mono B6.out.size))
  have HR7 := hid hr7.told
  clear hz hbr hr7 B6
  refine (HCC.out.rm zr _ [h] (HWW.out _ BR.out) HR7.out (by simp)).mono ?_
  rintro e z7 ⟨hb, g7, f7, rfl⟩
  have B7 := hid (BR.out.trans (hb.mono BR.out.size))
  clear hb BR HR7
  go_wp2_with fail
  refine (HCC.out.gr z7 (HWW.out _ B7.out)).mono ?_
  rintro e z8 ⟨hb, a1, q1, a2, m2, q2, a3, q3, rfl⟩
  have B8 := hid (B7.out.trans (hb.mono B7.out.size))
  clear hb B7
  go_wp2_with fail
  obtain ⟨z9, hz⟩ : ∃ z, z = z8.alloc (.cells #[.slice a1 0 q1, .slice a2 m2 q2] 42) := ⟨_, rfl⟩
  have hb9 : Below z8.heap.size z8 z9 := by rw [hz]; exact (Below.refl _ _).alloc (Nat.le_refl _) _
  have hg9 : z9.heap[z8.heap.size]? = some (.cells #[.slice a1 0 q1, .slice a2 m2 q2] 42 (0, 0)) := by rw [hz]; exact heap_alloc_new _ _
  have hl9 : z8.heap.size < z9.heap.size := by rw [hz]; simp
  rw [← hz]
  have B9 := hid (B8.out.trans (hb9.mono B8.out.size))
  obtain ⟨bg, hbg⟩ : ∃ b, b = z8.heap.size := ⟨_, rfl⟩
  rw [← hbg] at hg9 hl9 ⊢
  have HG9 := hid hg9
  have HL9 := hid hl9
  have D9 := hid (Below.refl z9.heap.size z9)
  clear hz hb9 hg9 hl9 hbg B8
  refine (HCC.out.st z9 h 1 (HWW.out _ B9.out) HH.out (by simp [Nm])).mono ?_
  rintro e z10 ⟨hb, rfl⟩
  have B10 := hid (B9.out.trans (hb.mono B9.out.size))
  have D10 := hid (D9.out.trans (hb.mono D9.out.size))
  clear hb B9 D9
  go_wp2_with fail
  refine (HCC.out.cn z10 h (HWW.out _ B10.out) HH.out).mono ?_
  rintro e z11 ⟨hb, rfl⟩
  have B11 := hid (B10.out.trans (hb.mono B10.out.size))
  have D11 := hid (D10.out.trans (hb.mono D10.out.size))
  clear hb B10 D10
  go_wp2_with fail
  refine (HCC.out.all z11 9 (HWW.out _ B11.out) (by omega)).mono ?_
  rintro e z12 ⟨hb, a4, q4, rfl⟩
  have B12 := hid (B11.out.trans (hb.mono B11.out.size))
  have D12 := hid (D11.out.trans (hb.mono D11.out.size))
  clear hb B11 D11
  go_wp2_with fail
  refine (HCC.out.ln z12 h 9 (HWW.out _ B12.out) HH.out (by omega)).mono ?_
  rintro e z13 ⟨hb, a5, q5, rfl⟩
  have B13 := hid (B12.out.trans (hb.mono B12.out.size))
  have D13 := hid (D12.out.trans (hb.mono D12.out.size))
  clear hb B12 D12
  have cg : z13.cell? ⟨bg, 0, none⟩ = some (.slice a1 0 q1) := by
    have := (D13.out.block bg HL9.out).trans HG9.out
    simp [World.cell?, this]
  go_wp2_with fail
  refine (HCC.out.awk z13 (HWW.out _ B13.out)).mono ?_
  rintro e z14 ⟨hb, rfl⟩
  have B14 := hid (B13.out.trans (hb.mono B13.out.size))
  have D14 := hid (D13.out.trans (hb.mono D13.out.size))
  clear hb B13 D13
  clear cg
  go_wp2
  go_ret
  exact ⟨rfl, HWW.out _ B14.out⟩
end Go.Proofs.Ytceokibalphgpaa
