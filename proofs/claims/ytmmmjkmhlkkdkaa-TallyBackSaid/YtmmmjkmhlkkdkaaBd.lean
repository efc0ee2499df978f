/-
  TallyBounds' walk.
-/
import Derived.Test.YtmmmjkmhlkkdkaaTlN
import Derived.Test.YtmmmjkmhlkkdkaaMixC
import Derived.Test.YtmmmjkmhlkkdkaaMixD
namespace Go.Proofs.Ytmmmjkmhlkkdkaa
open Go.ChangeShapes Go.WideShapes Go.ChangeAt Go.RowKit Go.Maps

def BoundsInv (w0 : World) (p b : Nat) (most : Int) (k : Nat) (wr : World) : Prop :=
  ∃ l, TlW wr p b k most l ∧ Below w0.heap.size w0 wr ∧ w0.heap.size ≤ p ∧ w0.heap.size ≤ b

/-- A copy of an act. -/
structure Cells3 (w : World) (g : Nat) (x : Act3) : Prop where
  c0 : w.cell? ⟨g, 0, none⟩ = some (.bool x.down)
  c1 : w.cell? ⟨g, 1, none⟩ = some (.int .u64 x.key)
  c2 : w.cell? ⟨g, 2, none⟩ = some (.int .u32 x.n)
theorem Cells3.new (w w2 : World) (x : Act3) (f : Fr (fun _ => False) (w.alloc (.cells #[.bool x.down, .int .u64 x.key, .int .u32 x.n] 33)) w2) : Cells3 w2 w.heap.size x := by
  have h := f.block w.heap.size (by simp) (fun h => h)
  rw [heap_alloc_new] at h
  exact ⟨cell_of_row _ _ 0 _ 33 _ h, cell_of_row _ _ 1 _ 33 _ h, cell_of_row _ _ 2 _ 33 _ h⟩
theorem Cells3.step {w w' : World} {g b : Nat} {x : Act3} (h : Cells3 w g x) (f : Fr (fun j => j = b) w w') (hb : g ≠ b) : Cells3 w' g x := by
  have hlt := World.block_lt_of_cell? w _ h.c0
  have e := f.block g hlt hb
  exact ⟨by rw [World.cell?_of_block e]; exact h.c0, by rw [World.cell?_of_block e]; exact h.c1, by rw [World.cell?_of_block e]; exact h.c2⟩

set_option maxHeartbeats 2000000 in
set_option maxRecDepth 100000 in
theorem Bounds_any (w : World) (m : Int) (ad : Option Addr) (cap : Nat) (l : List Act3) (hm : U32 m) (hl : Acts w w.heap.size ad l) (hll : l.length ≤ 9223372036854775807) : Calls Try.prog 4 #[.int .u32 m, .slice ad l.length cap] w fun e w' => e = .returned (.bool true) ∧ Below w.heap.size w w' := by
  have HL := hid hl
  have HN := hid (New_tl m w hm.1 hm.2)
  have HLL := hid hll
  clear hl hll
  go_enter Try.func4, Try.ntmps4
  go_wp2_with fail
  refine HN.out.mono ?_
  rintro e w1 ⟨rfl, t1, b1⟩
  clear HN
  go_wp2
  go_loopw [6] (fun i wr => ∃ k : Nat, k ≤ l.length ∧ k ≤ 200 ∧ i = .int .i64 k ∧ BoundsInv w (w.heap.size + 1) w.heap.size m k wr) (fun i _ => 200 - (intOf i).toNat)
  case atStart => exact ⟨0, by omega, by omega, rfl, _, t1, b1, by omega, by omega⟩
  case round =>
    obtain ⟨k, hk1, hk2, rfl, L, r1, r2, r3, r4⟩ := hrel
    clear t1 b1 r3 r4
    by_cases hlt : k < l.length ∧ k < 200
    · obtain ⟨hkl, hk200⟩ := hlt
      have hx : l[k]? = some l[k] := List.getElem?_eq_getElem hkl
      have hxok := HL.out.ok l[k] (List.getElem_mem hkl)
      generalize l[k] = x at hx hxok
      obtain ⟨a, rfl, hab⟩ := HL.out.some (by omega)
      have hac := HL.out.below r2
      have x0 := hac.at0 k a x rfl hx
      have x1 := hac.at1 k a x rfl hx
      have x2 := hac.at2 k a x rfl hx
      have R1 := hid r1
      have R2 := hid r2
      have HX := hid hx
      have HXO := hid hxok
      clear r1 r2 hac hx hxok
      obtain ⟨W0, hW0⟩ : ∃ W0, W0 = wr.alloc (.cells #[.bool x.down, .int .u64 x.key, .int .u32 x.n] 33) := ⟨_, rfl⟩
      have T0 := R1.out.fr ((Fr.refl (fun _ => False) wr).alloc (.cells #[.bool x.down, .int .u64 x.key, .int .u32 x.n] 33)) (fun h => h) (fun h => h)
      rw [← hW0] at T0
      have hOf := hid (Of_any W0 _ _ _ _ x.key _ T0 HXO.out.1.1 HXO.out.1.2)
      have hSum := hid (Sum_any W0 _ _ _ _ _ T0 (by omega))
      have HW0 := hid hW0
      have b0 := R1.out.good.get0 x.key
      have b1 := R1.out.good.get1 hm.1 x.key
      have b2 := hm.2
      have n0 := HXO.out.2.1
      have n1 := HXO.out.2.2
      obtain ⟨g0, hg0⟩ : ∃ g0, g0 = getM L x.key := ⟨_, rfl⟩
      obtain ⟨s0, hs0⟩ : ∃ s0, s0 = sumM L := ⟨_, rfl⟩
      obtain ⟨g1, hg1⟩ : ∃ g1, g1 = getM (actM m L x) x.key := ⟨_, rfl⟩
      obtain ⟨er, her⟩ : ∃ er, er = erM m L x := ⟨_, rfl⟩
      rw [← hg0] at hOf b0 b1
      rw [← hs0] at hSum
      have HG0 := hid hg0
      have HS0 := hid hs0
      have HG1 := hid hg1
      have HER := hid her
      clear T0 hW0 hg0 hs0 hg1 her
      go_wp2_with fail
      rw [← HW0.out]
      refine hOf.out.mono ?_
      rintro e w' ⟨rfl, rfl⟩
      go_wp2_with fail
      refine hSum.out.mono ?_
      rintro e w2 ⟨rfl, f2⟩
      have hz : wr.heap.size < w2.heap.size := by have := f2.size; rw [HW0.out] at this; simp at this; omega
      have HC := hid (Cells3.new wr w2 x (HW0.out ▸ f2))
      have T2 := hid ((R1.out.fr ((Fr.refl (fun _ => False) wr).alloc (.cells #[.bool x.down, .int .u64 x.key, .int .u32 x.n] 33)) (fun h => h) (fun h => h)).fr (HW0.out ▸ f2) (fun h => h) (fun h => h))
      obtain ⟨c0, c1, c2⟩ := HC.out
      have HF2 := hid f2
      have hb2 : Below w.heap.size w w2 := by
        have e1 : Below w.heap.size w W0 := by rw [HW0.out]; exact R2.out.alloc R2.out.size _
        exact below_on e1 f2 (fun j h => h.elim)
      have HB2 := hid hb2
      clear hOf hSum f2 hb2
      rcases Bool.eq_false_or_eq_true x.down with hd | hd
      · rw [hd] at c0
        have hAct := Hid.out (hid (Down_act w2 _ _ _ _ _ x T2.out (by omega) HXO.out.1 HXO.out.2 hd))
        unfold UpPost at hAct
        rw [← HG1.out, ← HER.out] at hAct
        have hAct := hid hAct
        rcases Bool.eq_false_or_eq_true (okM m L x) with hok | hok
        · -- down = true, ok = True
          have hok' := hid hok
          have her : er = 0 := by rw [HER.out]; unfold erM; rw [hok]; rfl
          have hg1 : g1 = g0 - x.n := by rw [HG1.out, actM_get, hok, hd, HG0.out]; rfl
          have hle : x.n ≤ g0 := by unfold okM at hok; rw [hd] at hok; rw [HG0.out]; simpa using hok
          clear hok
          subst her
          have hA : decide (m < g1) = false := by simp; omega
          have hB : ((g0 - g1) % 4294967296 != x.n) = false := by rw [hg1]; simp; omega
          clear hg1 hle
          go_wp2_with fail
          refine hAct.out.mono ?_
          rintro e w3 ⟨rfl, t3, f3⟩
          clear hAct
          obtain ⟨d0, d1, d2⟩ := HC.out.step f3 (by have := R1.out.ltb; omega)
          rw [hd] at d0
          have hOf3 := hid (Of_any w3 _ _ _ _ x.key _ t3 HXO.out.1.1 HXO.out.1.2)
          rw [← HG1.out] at hOf3
          have T3 := hid t3
          have F3 := hid f3
          clear t3 f3 c0 c1 c2 x0 x1 x2
          go_wp2_with fail
          refine hOf3.out.mono ?_
          rintro e w' ⟨rfl, rfl⟩
          clear hOf3
          go_wp2
          go_roundw
          case rel => exact ⟨k + 1, by omega, by omega, by go_num, _, T3.out, below_on (HB2.out) F3.out (fun j h => by omega), by omega, by omega⟩
          case measure => simp [intOf]; omega
        · -- down = true, ok = False
          have hok' := hid hok
          have her : er = 4 := by rw [HER.out]; unfold erM; rw [hok]; rfl
          have hg1 : g0 = g1 := by rw [HG1.out, actM_get, hok, HG0.out]; rfl
          have hLL : actM m L x = L := actM_no hok
          clear hok
          subst her
          subst hg1
          have hA : decide (m < g0) = false := by simp; omega
          have hSum3 := hid (fun (W : World) (t : TlW W (w.heap.size + 1) w.heap.size (k + 1) m L) => Sum_any W _ _ _ _ _ t (by omega))
          go_wp2_with fail
          refine hAct.out.mono ?_
          rintro e w3 ⟨rfl, t3, f3⟩
          clear hAct
          obtain ⟨d0, d1, d2⟩ := HC.out.step f3 (by have := R1.out.ltb; omega)
          rw [hd] at d0
          have hOf3 := hid (Of_any w3 _ _ _ _ x.key _ t3 HXO.out.1.1 HXO.out.1.2)
          rw [← HG1.out] at hOf3
          have T3 := hid t3
          have F3 := hid f3
          clear t3 f3 c0 c1 c2 x0 x1 x2
          go_wp2_with fail
          refine hOf3.out.mono ?_
          rintro e w' ⟨rfl, rfl⟩
          clear hOf3
          rw [hLL] at T3
          have hS4 := hSum3.out w3 T3.out
          rw [← HS0.out] at hS4
          have HS4 := hid hS4
          clear hS4 hSum3 hLL
          go_wp2_with fail
          refine HS4.out.mono ?_
          rintro e w4 ⟨rfl, f4⟩
          have F4 := hid f4
          clear HS4 f4
          go_wp2
          go_roundw
          case rel => exact ⟨k + 1, by omega, by omega, by go_num, _, T3.out.fr F4.out (fun h => h) (fun h => h), below_on (below_on (HB2.out) F3.out (fun j h => by omega)) F4.out (fun j h => h.elim), by omega, by omega⟩
          case measure => simp [intOf]; omega
      · rw [hd] at c0
        have hAct := Hid.out (hid (Up_act w2 _ _ _ _ _ x T2.out (by omega) HXO.out.1 HXO.out.2 hd))
        unfold UpPost at hAct
        rw [← HG1.out, ← HER.out] at hAct
        have hAct := hid hAct
        rcases Bool.eq_false_or_eq_true (okM m L x) with hok | hok
        · -- down = false, ok = True
          have hok' := hid hok
          have her : er = 0 := by rw [HER.out]; unfold erM; rw [hok]; rfl
          have hg1 : g1 = g0 + x.n := by rw [HG1.out, actM_get, hok, hd, HG0.out]; rfl
          have hle : g0 + x.n ≤ m := by unfold okM at hok; rw [hd] at hok; rw [HG0.out]; simpa using hok
          clear hok
          subst her
          have hA : decide (m < g1) = false := by simp; omega
          have hB : ((g1 - g0) % 4294967296 != x.n) = false := by rw [hg1]; simp; omega
          clear hg1 hle
          go_wp2_with fail
          refine hAct.out.mono ?_
          rintro e w3 ⟨rfl, t3, f3⟩
          clear hAct
          obtain ⟨d0, d1, d2⟩ := HC.out.step f3 (by have := R1.out.ltb; omega)
          rw [hd] at d0
          have hOf3 := hid (Of_any w3 _ _ _ _ x.key _ t3 HXO.out.1.1 HXO.out.1.2)
          rw [← HG1.out] at hOf3
          have T3 := hid t3
          have F3 := hid f3
          clear t3 f3 c0 c1 c2 x0 x1 x2
          go_wp2_with fail
          refine hOf3.out.mono ?_
          rintro e w' ⟨rfl, rfl⟩
          clear hOf3
          go_wp2
          go_roundw
          case rel => exact ⟨k + 1, by omega, by omega, by go_num, _, T3.out, below_on (HB2.out) F3.out (fun j h => by omega), by omega, by omega⟩
          case measure => simp [intOf]; omega
        · -- down = false, ok = False
          have hok' := hid hok
          have her : er = 4 := by rw [HER.out]; unfold erM; rw [hok]; rfl
          have hg1 : g0 = g1 := by rw [HG1.out, actM_get, hok, HG0.out]; rfl
          have hLL : actM m L x = L := actM_no hok
          clear hok
          subst her
          subst hg1
          have hA : decide (m < g0) = false := by simp; omega
          have hSum3 := hid (fun (W : World) (t : TlW W (w.heap.size + 1) w.heap.size (k + 1) m L) => Sum_any W _ _ _ _ _ t (by omega))
          go_wp2_with fail
          refine hAct.out.mono ?_
          rintro e w3 ⟨rfl, t3, f3⟩
          clear hAct
          obtain ⟨d0, d1, d2⟩ := HC.out.step f3 (by have := R1.out.ltb; omega)
          rw [hd] at d0
          have hOf3 := hid (Of_any w3 _ _ _ _ x.key _ t3 HXO.out.1.1 HXO.out.1.2)
          rw [← HG1.out] at hOf3
          have T3 := hid t3
          have F3 := hid f3
          clear t3 f3 c0 c1 c2 x0 x1 x2
          go_wp2_with fail
          refine hOf3.out.mono ?_
          rintro e w' ⟨rfl, rfl⟩
          clear hOf3
          rw [hLL] at T3
          have hS4 := hSum3.out w3 T3.out
          rw [← HS0.out] at hS4
          have HS4 := hid hS4
          clear hS4 hSum3 hLL
          go_wp2_with fail
          refine HS4.out.mono ?_
          rintro e w4 ⟨rfl, f4⟩
          have F4 := hid f4
          clear HS4 f4
          go_wp2
          go_roundw
          case rel => exact ⟨k + 1, by omega, by omega, by go_num, _, T3.out.fr F4.out (fun h => h) (fun h => h), below_on (below_on (HB2.out) F3.out (fun j h => by omega)) F4.out (fun j h => h.elim), by omega, by omega⟩
          case measure => simp [intOf]; omega
    · have hlt2 : k = l.length ∨ k = 200 := by omega
      have R2 := hid r2
      clear r1 r2 hlt
      rcases hlt2 with rfl | rfl
      all_goals
        go_wp2_with (refine (awake_any wr).mono ?_; rintro e w2 ⟨rfl, hb2⟩)
        all_goals
          go_ret
          exact ⟨rfl, R2.out.trans (hb2.mono R2.out.size)⟩
end Go.Proofs.Ytmmmjkmhlkkdkaa
