/-
  The contract of the plain twin's Under.
-/
import Derived.Test.YtpcgplcpfbgcfaaFcR
import Derived.Test.YtpcgplcpfbgcfaaFcF
import Derived.Test.YtpcgplcpfbgcfaaFcU
namespace Go.Proofs.Ytpcgplcpfbgcfaa
open Go Go.ChangeShapes Go.WideShapes Go.ChangeAt Go.RowKit

/-- Is one of the Id among the first ones of the line? -/
def fnd (l : List Face) (g : List Int) (i k : Nat) : Bool := ((lineL l (i : Int)).take k).any fun y => decide ((l[y]?.map Face.id) = some g)
theorem fnd_succ {l : List Face} {g : List Int} {i k y : Nat} {f : Face} (hy : (lineL l (i : Int))[k]? = some y) (hf : l[y]? = some f) : fnd l g i (k + 1) = (fnd l g i k || (f.id == g)) := by
  unfold fnd
  rw [List.take_add_one, hy]
  simp only [Option.toList_some, List.any_append, List.any_cons, List.any_nil, Bool.or_false]
  congr 1
  rw [hf]
  by_cases h : f.id = g <;> simp [h]
theorem fnd_all {l : List Face} {g : List Int} {i m : Nat} (hm : m = (lineL l (i : Int)).length) : fnd l g i m = isUnder l g i := by
  unfold fnd isUnder
  rw [hm, List.take_length]
set_option maxHeartbeats 2000000 in
set_option maxRecDepth 100000 in
theorem RUnder_any (w : World) (ad : Option Addr) (N cap : Nat) (l : List Face) (g : List Int) (hg : g.length = 16) (hF : FRow w w.heap.size ad l) (hN : N = l.length) (hN2 : N ≤ 100000) :
    Calls Try.prog 20 #[.slice ad N cap, .agg (u8s g)] w (SeqPost w (underL l g N)) := by
  obtain ⟨i0, hi, hz0, hz1, hz2⟩ := info_parts info3
  have hi' := hid hi
  have hz0' := hid hz0
  have hz1' := hid hz1
  have hz2' := hid hz2
  have HF := hid hF
  have HN := hid hN
  have HG := hid hg
  have HL := hid (fun (W : World) (i : Int) (h : Below w.heap.size w W) => RLine_any W ad N cap l i (hF.on h) hN hN2)
  clear hF hN hg hi hz0 hz1 hz2
  go_enter Try.func20, Try.ntmps20
  go_wp2
  have hid0 : AtL (w.alloc (.cells (u8s g) 28)) w.heap.size 0 (u8s g).toList := AtL.row (by simpa using heap_alloc_new w (.cells (u8s g) 28))
  have hB0 : Below w.heap.size w (w.alloc (.cells (u8s g) 28)) := (Below.refl _ _).alloc (Nat.le_refl _) _
  have hs1 : w.heap.size < (w.alloc (.cells (u8s g) 28)).heap.size := by simp
  obtain ⟨w1, hw1⟩ : ∃ w1, w1 = w.alloc (.cells (u8s g) 28) := ⟨_, rfl⟩
  rw [← hw1] at hid0 hB0 hs1 ⊢
  have HI := hid hid0
  have HB0 := hid hB0
  clear hid0 hB0 hw1
  go_loopw [5, 6] (fun ov p wr => ∃ q : Nat, q ≤ N ∧ p = .int .i64 q ∧ RowKit.Hid (wr.ownsRow w1.heap.size 3 1 ov (underL l g q).length (pc (underL l g q))) ∧ RowKit.Hid (Below w1.heap.size w1 wr)) (fun _ p _ => N - (intOf p).toNat)
  case atStart => exact ⟨0, by omega, rfl, hid (World.ownsRow_nil _ _ _ _), hid (Below.refl _ _)⟩
  case round =>
    obtain ⟨q, hq, rfl, HR, HBr⟩ := hrel
    by_cases hql : q < N
    · have hbw : Below w.heap.size w wr := HB0.out.trans (HBr.out.mono HB0.out.size)
      have HBW := hid hbw
      have HLq := hid (HL.out wr (q : Int) hbw)
      have hul : (underL l g q).length ≤ q := by have := List.length_filter_le (isUnder l g) (List.range q); simpa [underL] using this
      obtain ⟨oa, ok, rfl⟩ := own_form HR.out
      obtain ⟨b, o, rfl, hb⟩ := HF.out.some (by have := HN.out; omega)
      have HBB := hid hb
      clear hbw hb
      go_wp2_with fail
      refine HLq.out.mono ?_
      rintro e w2 ⟨lv, rfl, hrow2, hb2⟩
      obtain ⟨xa, xk, rfl⟩ := own_form hrow2
      have HLI := hid (lies_of_owns hrow2)
      have HB2 := hid hb2
      have HBC := hid (HBr.out.trans (hb2.mono HBr.out.size))
      have HR2 := hid ((Fr.of_below (fp := fun _ => False) hb2).owns HR.out (fun _ _ h => h))
      have HI2 := hid (HI.out.fr (Fr.of_below (fp := fun _ => False) (HBr.out.trans (hb2.mono HBr.out.size))))
      obtain ⟨m, hm⟩ : ∃ m, m = (lineL l (q : Int)).length := ⟨_, rfl⟩
      have hm2 : m ≤ 100000 := by have := lineL_len l (q : Int); have := HN.out; omega
      have HM := hid hm
      have HF2 := hid (HF.out.below (HBW.out.trans (hb2.mono HBW.out.size)))
      rw [← hm]
      clear hrow2 hb2 hm HLq
      go_wp2
      go_loopw [8, 9] (fun fv p wx => ∃ k : Nat, k ≤ m ∧ p = .int .i64 k ∧ fv = .bool (fnd l g q k) ∧ RowKit.Hid (Fr (fun _ => False) w2 wx)) (fun _ p _ => m - (intOf p).toNat)
      case atStart => exact ⟨0, by omega, rfl, rfl, hid (Fr.refl _ _)⟩
      case round =>
        obtain ⟨k, hk, rfl, rfl, HX⟩ := hrel
        by_cases hkm : k < m
        · have hy : (lineL l (q : Int))[k]? = some ((lineL l (q : Int))[k]'(by have := HM.out; omega)) := List.getElem?_eq_getElem (by have := HM.out; omega)
          generalize ((lineL l (q : Int))[k]'(by have := HM.out; omega)) = y at hy
          have hyl := (lineL_mem (List.mem_of_getElem? hy)).1
          have hf : l[y]? = some l[y] := List.getElem?_eq_getElem hyl
          generalize l[y] = f at hf
          have hfs := fnd_succ (g := g) hy hf
          have HFS := hid hfs
          have hyN : y < N := by have := HN.out; omega
          obtain ⟨gx, rfl, cgx⟩ := HLI.out k y hy
          have hfi := HF.out.len f (List.mem_of_getElem? hf)
          have HFI := hid hfi
          have hC : ∀ W, Fr (fun _ => False) w2 W → W.cell? ⟨gx, k, none⟩ = some (.int .i64 (y : Int)) := fun W h => (World.cell?_of_block (w := w2) (w' := W) (a := ⟨gx, k, none⟩) (h.block gx (World.block_lt_of_cell? w2 _ cgx) (fun h => h))).trans cgx
          have HC := hid hC
          have HS1 := hid (show ∀ W, Fr (fun _ => False) w2 W → AtL W b (o + y * 17) (u8s f.id).toList from fun W h => (HF2.out.id hf).fr h)
          have HS2 := hid (show ∀ W, Fr (fun _ => False) w2 W → AtL W w.heap.size 0 (u8s g).toList from fun W h => HI2.out.fr h)
          have he := fun W => eq28 f.id g HFI.out HG.out W
          have hgd := guard28
          clear hy hyl hf hfs hfi hC cgx
          cases hfk : fnd l g q k with
          | true =>
            have hn : fnd l g q (k + 1) = true := by rw [HFS.out, hfk]; rfl
            have HNX := hid hn
            clear hn
            go_wp2
            refine D.wp_region_mix [0, 0, 0, 0, 0, 0, 1, 0, 0, 1, 1, 0, 0, 0] (fun W => Fr (fun _ => False) w2 W) (by kernel_rfl) (by kernel_rfl) HX.out.drew ?_
            repeat (first
              | (refine C.wpMix_not (by decide) rfl ?_; simp only [Act.put, List.setIfInBounds_toArray, List.set_cons_zero, List.set_cons_succ])
              | (refine' C.wpMix_value _ rfl rfl _ _; rotate_left; (solve | (intro W; go_simp) | (intro W; go_simp; with_reducible rfl)); simp only [Act.put, List.setIfInBounds_toArray, List.set_cons_zero, List.set_cons_succ]))
            refine C.wpMix_end ?_
            go_wp2
            go_roundw
            case rel => exact ⟨k + 1, by omega, by go_num, by rw [HNX.out], hid HX.out.drew⟩
            case measure => simp [intOf]; omega
          | false =>
            have hn : fnd l g q (k + 1) = (f.id == g) := by rw [HFS.out, hfk]; rfl
            have HNX := hid hn
            clear hn
            go_wp2
            refine D.wp_region_mix [0, 0, 0, 0, 0, 0, 1, 0, 0, 1, 1, 0, 0, 0] (fun W => Fr (fun _ => False) w2 W) (by kernel_rfl) (by kernel_rfl) HX.out.drew ?_
            repeat (first
              | (refine C.wpMix_read _ rfl rfl (fun W hS => load_id rfl rfl (HS1.out W hS) HFI.out) ?_; simp only [Act.put, List.setIfInBounds_toArray, List.set_cons_zero, List.set_cons_succ])
              | (refine C.wpMix_read _ rfl rfl (fun W hS => load_id rfl rfl (HS2.out W hS) HG.out) ?_; simp only [Act.put, List.setIfInBounds_toArray, List.set_cons_zero, List.set_cons_succ])
              | (refine' C.wpMix_read _ rfl rfl _ _; rotate_left; (solve | (intro W hS; have c := HC.out W hS; go_simp) | (intro W hS; have c := HC.out W hS; go_simp; with_reducible rfl)); simp only [Act.put, List.setIfInBounds_toArray, List.set_cons_zero, List.set_cons_succ])
              | (refine' C.wpMix_value _ rfl rfl _ _; rotate_left; (solve | (intro W; go_simp) | (intro W; go_simp; with_reducible rfl)); simp only [Act.put, List.setIfInBounds_toArray, List.set_cons_zero, List.set_cons_succ]))
            refine C.wpMix_end ?_
            go_wp2
            go_roundw
            case rel => exact ⟨k + 1, by omega, by go_num, by rw [HNX.out], hid HX.out.drew⟩
            case measure => simp [intOf]; omega
        · obtain rfl : k = m := by omega
          have hall := fnd_all (g := g) HM.out
          have hus := underL_succ l g q
          rw [← hall] at hus
          have HUS := hid hus
          have HR3 := hid (HX.out.owns HR2.out (fun _ _ h => h))
          have hb3 : Below w1.heap.size w1 wr := HBC.out.trans (HX.out.below HBC.out.size (fun _ h => h.elim))
          have HB3 := hid hb3
          obtain ⟨nu, hnu⟩ : ∃ nu, nu = (underL l g q).length := ⟨_, rfl⟩
          have hul2 : nu ≤ q := by omega
          have HR4 := HR3.out
          rw [← hnu] at HR4
          rw [← hnu]
          have HNU := hid hnu
          have HR5 := hid HR4
          clear hus hall hb3 HR4 hnu
          cases hfk : fnd l g q k with
          | true =>
            have HFK := hid hfk
            clear hfk
            go_wp2_with (at_builtin; refine wpList_append_lies _ (o := ⟨some 42, _, _, _, _, _⟩) rfl (.tmp 39) (.tmp 41) 32 rfl w1.heap.size 3 i0 (.int .i64 0) 1 8 Try.underlying32 hi'.out hz0'.out hz1'.out hz2'.out rfl (by decide) (.slice oa nu ok) nu _ rfl (HR5.out.alloc _) ⟨wr.heap.size, 0, none⟩ 1 1 [.int .i64 (q : Int)] rfl rfl (World.news_of_block (heap_alloc_new wr _)) (by simp [Value.oneCell']) (by decide) (by unfold maxLen; omega) (by omega) (by have := HB3.out.size; simp; omega) (wr.heap.size + 1) (by simp) ?_; intro g5 k5 w5 hown5 hgrow5 hat5 hlt5; have HO5 := hid hown5; have HB5 := hid ((HB3.out.alloc HB3.out.size (.cells #[.int .i64 (q : Int)] 3)).grown hgrow5 (by have := HB3.out.size; simp; omega) (fun j hj => (HR5.out.lt j hj).1)); clear hown5 hgrow5 hat5)
            go_roundw
            case rel =>
              refine ⟨q + 1, by omega, by go_num, hid ?_, HB5⟩
              rw [HUS.out, HFK.out]
              simp only [if_true, List.length_append, List.length_cons, List.length_nil]
              rw [pc_app, ← HNU.out]
              exact HO5.out
            case measure => simp [intOf]; omega
          | false =>
            have HFK := hid hfk
            clear hfk
            go_wp2
            go_roundw
            case rel =>
              refine ⟨q + 1, by omega, by go_num, hid ?_, HB3⟩
              rw [HUS.out, HFK.out]
              simp only [Bool.false_eq_true, if_false, List.append_nil]
              rw [← HNU.out]
              exact HR5.out
            case measure => simp [intOf]; omega
    · obtain rfl : q = N := by omega
      obtain ⟨oa, ok, rfl⟩ := own_form HR.out
      go_wp2
      go_ret
      exact ⟨_, rfl, owns_low HR.out (by omega), HB0.out.trans (HBr.out.mono HB0.out.size)⟩
end Go.Proofs.Ytpcgplcpfbgcfaa
