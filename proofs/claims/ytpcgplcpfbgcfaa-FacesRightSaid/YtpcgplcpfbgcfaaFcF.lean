/-
  The contracts of Find, the plain twin's and the program's own.
-/
import Derived.Test.YtpcgplcpfbgcfaaFcG
import Derived.Test.YtpcgplcpfbgcfaaMixD
namespace Go.Proofs.Ytpcgplcpfbgcfaa
open Go Go.ChangeShapes Go.WideShapes Go.ChangeAt Go.RowKit

theorem find_at {g : List Int} : ∀ {l : List Face} {q : Nat} {f : Face}, l[q]? = some f → f.id = g → (∀ i f', i < q → l[i]? = some f' → f'.id ≠ g) → findL l g = some q
  | [], _, _, h, _, _ => by cases h
  | a :: l, 0, f, h, hf, _ => by
    simp at h; subst h
    unfold findL
    rw [if_pos hf]
  | a :: l, q + 1, f, h, hf, hn => by
    unfold findL
    rw [if_neg (hn 0 a (by omega) rfl), find_at (l := l) (q := q) (f := f) (by simpa using h) hf (fun i f' hi hf' => hn (i + 1) f' (by omega) (by simpa using hf'))]
    rfl
theorem find_none {g : List Int} : ∀ {l : List Face}, (∀ f ∈ l, f.id ≠ g) → findL l g = none
  | [], _ => rfl
  | a :: l, h => by
    unfold findL
    rw [if_neg (h a (by simp)), find_none (fun f hf => h f (by simp [hf]))]
    rfl
theorem wpList_run {P : Program} {w : World} {ops : Array Oper} {rest : List Oper} {o : Oper} {a : Act} {Q : Exit → Act → World → Prop} (hg : o.guard = none) (v : Value)
    (hr : (execOp a.eval o).run P w = .ok (.value v) w) (h : wpList P ops Q rest (a.put o.dst v) w) : wpList P ops Q (o :: rest) a w := by
  refine wpList_plain hg fun K hK => ?_
  unfold Oper.wp
  rw [hr]
  exact hK _ _ h
theorem AtL.fr {W W' : World} {b o : Nat} {cs : List Value} (h : AtL W b o cs) (hf : Fr (fun _ => False) W W') : AtL W' b o cs := fun j v hv => by
  have h1 := h j v hv
  exact (World.cell?_of_block (w := W) (w' := W') (a := ⟨b, o + j, none⟩) (hf.block b (World.block_lt_of_cell? W _ h1) (fun h => h))).trans h1
theorem AtL.row {W : World} {b t : Nat} {cs : List Value} {fz : Nat × Nat} (h : W.heap[b]? = some (.cells cs.toArray t fz)) : AtL W b 0 cs := fun j v hv => by
  rw [Nat.zero_add, cell_of_row _ _ j _ _ _ h]
  simpa using hv
def rfV : Option Nat → Int
  | some a => (a : Int)
  | none => -1
set_option maxHeartbeats 1000000 in
set_option maxRecDepth 100000 in
theorem RFind_any (w : World) (ad : Option Addr) (N cap : Nat) (l : List Face) (g : List Int) (hg : g.length = 16) (hF : FRow w w.heap.size ad l) (hN : N = l.length) (hN2 : N ≤ 100000) :
    Calls Try.prog 18 #[.slice ad N cap, .agg (u8s g)] w fun e w' => e = .returned (.int .i64 (rfV (findL l g))) ∧ Below w.heap.size w w' := by
  have HF := hid hF
  have HN := hid hN
  have HG := hid hg
  clear hF hN hg
  go_enter Try.func18, Try.ntmps18
  go_wp2
  have hid0 : AtL (w.alloc (.cells (u8s g) 28)) w.heap.size 0 (u8s g).toList := AtL.row (by simpa using heap_alloc_new w (.cells (u8s g) 28))
  have hB0 : Below w.heap.size w (w.alloc (.cells (u8s g) 28)) := (Below.refl _ _).alloc (Nat.le_refl _) _
  obtain ⟨w1, hw1⟩ : ∃ w1, w1 = w.alloc (.cells (u8s g) 28) := ⟨_, rfl⟩
  rw [← hw1] at hid0 hB0 ⊢
  have HI := hid hid0
  have HB0 := hid hB0
  clear hid0 hB0 hw1
  go_loopw [5] (fun p wr => ∃ q : Nat, q ≤ N ∧ p = .int .i64 q ∧ RowKit.Hid (∀ i f, i < q → l[i]? = some f → f.id ≠ g) ∧ RowKit.Hid (Fr (fun _ => False) w1 wr)) (fun p _ => N - (intOf p).toNat)
  case atStart => exact ⟨0, by omega, rfl, hid (fun i f h => by omega), hid (Fr.refl _ _)⟩
  case round =>
    obtain ⟨q, hq, rfl, HP, HFr⟩ := hrel
    by_cases hql : q < N
    · have hx : l[q]? = some (l[q]'(by have := HN.out; omega)) := List.getElem?_eq_getElem (by have := HN.out; omega)
      generalize (l[q]'(by have := HN.out; omega)) = f at hx
      have hfi := HF.out.len f (List.mem_of_getElem? hx)
      obtain ⟨b, o, rfl, hb⟩ := HF.out.some (by have := HN.out; omega)
      have he := fun W => eq28 f.id g hfi HG.out W
      have hgd := guard28
      have hS1 : ∀ W, Fr (fun _ => False) w1 W → AtL W b (o + q * 17) (u8s f.id).toList := fun W h => ((HF.out.below HB0.out).id hx).fr h
      have hS2 : ∀ W, Fr (fun _ => False) w1 W → AtL W w.heap.size 0 (u8s g).toList := fun W h => HI.out.fr h
      have HS1 := hid hS1
      have HS2 := hid hS2
      have HX := hid hx
      have HFI := hid hfi
      clear hS1 hS2 hx hfi hb
      by_cases heq : f.id = g
      · have e1 : (f.id == g) = true := by simpa using heq
        rw [e1] at he
        have hfd : findL l g = some q := find_at HX.out heq HP.out
        have HFD := hid hfd
        clear heq e1 hfd
        go_wp2
        refine D.wp_region_mix [0, 0, 0, 0, 1, 1, 0] (fun W => Fr (fun _ => False) w1 W) (by kernel_rfl) (by kernel_rfl) HFr.out.drew ?_
        repeat (first
          | (refine C.wpMix_read _ rfl rfl (fun W hS => load_id rfl rfl (HS1.out W hS) HFI.out) ?_; simp only [Act.put, List.setIfInBounds_toArray, List.set_cons_zero, List.set_cons_succ])
          | (refine C.wpMix_read _ rfl rfl (fun W hS => load_id rfl rfl (HS2.out W hS) HG.out) ?_; simp only [Act.put, List.setIfInBounds_toArray, List.set_cons_zero, List.set_cons_succ])
          | (refine' C.wpMix_value _ rfl rfl _ _; rotate_left; (solve | (intro W; go_simp) | (intro W; go_simp; with_reducible rfl)); simp only [Act.put, List.setIfInBounds_toArray, List.set_cons_zero, List.set_cons_succ]))
        refine C.wpMix_end ?_
        go_wp2
        go_ret
        refine ⟨by rw [HFD.out]; rfl, ⟨HFr.out.drew.os.trans HB0.out.os, HFr.out.drew.tape.trans HB0.out.tape, HFr.out.drew.output.trans HB0.out.output, Nat.le_trans HB0.out.size HFr.out.drew.size, fun k hk => (HFr.out.drew.block k (by have := HB0.out.size; omega) (fun h => h)).trans (HB0.out.block k hk)⟩⟩
      · have e1 : (f.id == g) = false := by simpa using heq
        rw [e1] at he
        have HE := hid heq
        clear heq e1
        go_wp2
        refine D.wp_region_mix [0, 0, 0, 0, 1, 1, 0] (fun W => Fr (fun _ => False) w1 W) (by kernel_rfl) (by kernel_rfl) HFr.out.drew ?_
        repeat (first
          | (refine C.wpMix_read _ rfl rfl (fun W hS => load_id rfl rfl (HS1.out W hS) HFI.out) ?_; simp only [Act.put, List.setIfInBounds_toArray, List.set_cons_zero, List.set_cons_succ])
          | (refine C.wpMix_read _ rfl rfl (fun W hS => load_id rfl rfl (HS2.out W hS) HG.out) ?_; simp only [Act.put, List.setIfInBounds_toArray, List.set_cons_zero, List.set_cons_succ])
          | (refine' C.wpMix_value _ rfl rfl _ _; rotate_left; (solve | (intro W; go_simp) | (intro W; go_simp; with_reducible rfl)); simp only [Act.put, List.setIfInBounds_toArray, List.set_cons_zero, List.set_cons_succ]))
        refine C.wpMix_end ?_
        go_wp2
        go_roundw
        case rel =>
          refine ⟨q + 1, by omega, by go_num, hid (fun i f' hi hf' => ?_), hid HFr.out.drew⟩
          by_cases hiq : i = q
          · subst hiq
            rw [HX.out] at hf'; cases hf'
            exact HE.out
          · exact HP.out i f' (by omega) hf'
        case measure => simp [intOf]; omega
    · obtain rfl : q = N := by omega
      have hfd : findL l g = none := find_none (fun f hf => by
        obtain ⟨i, hi⟩ := List.mem_iff_getElem?.1 hf
        exact HP.out i f (by have := HN.out; have := (List.getElem?_eq_some_iff.1 hi).1; omega) hi)
      have HFD := hid hfd
      clear hfd
      go_wp2
      go_ret
      refine ⟨by rw [HFD.out]; rfl, ⟨HFr.out.os.trans HB0.out.os, HFr.out.tape.trans HB0.out.tape, HFr.out.output.trans HB0.out.output, Nat.le_trans HB0.out.size HFr.out.size, fun k hk => (HFr.out.block k (by have := HB0.out.size; omega) (fun h => h)).trans (HB0.out.block k hk)⟩⟩
/-- The cells of no face. -/
def f0 : Array Value := #[.int .u8 0, .int .u8 0, .int .u8 0, .int .u8 0, .int .u8 0, .int .u8 0, .int .u8 0, .int .u8 0, .int .u8 0, .int .u8 0, .int .u8 0, .int .u8 0, .int .u8 0, .int .u8 0, .int .u8 0, .int .u8 0, .int .i64 0]
theorem fcl_one {x : Face} : (fcl x).toArray.all (·.oneCell') = true := by
  rw [Array.all_eq_true_iff_forall_mem]
  intro v hv
  simp [fcl, u8l] at hv
  rcases hv with ⟨n, _, rfl⟩ | rfl <;> rfl
theorem fcl_info {x : Face} (hx : x.id.length = 16) : (Try.prog.info? 30).map (·.size) = some (fcl x).toArray.size := by
  rw [List.size_toArray, fcl_len hx]; exact size30
theorem f0_size {x : Face} (hx : x.id.length = 16) : f0.size = (fcl x).toArray.size := by simp [f0, fcl_len hx]
/-- A face, copied into a block of its own. -/
def boxF (w : World) (f : Face) : World := (w.alloc (.cells f0 30)).setRow w.heap.size (fcl f).toArray
theorem boxF_row (w : World) (f : Face) : (boxF w f).heap[w.heap.size]? = some (.cells (fcl f).toArray 30 (0, 0)) := setRow_heap _ _ _ _ 30 (0, 0) (heap_alloc_new _ _)
theorem boxF_fr (w : World) (f : Face) : Fr (fun _ => False) w (boxF w f) := by
  unfold boxF
  refine ⟨rfl, rfl, rfl, by simp [World.setRow], fun k hk _ => ?_⟩
  rw [setRow_other _ _ _ _ (by omega), Below.heap_alloc _ _ _ hk]
theorem boxF_id (w : World) (f : Face) (hf : f.id.length = 16) : AtL (boxF w f) w.heap.size 0 (u8s f.id).toList := fun j v hv => by
  rw [Nat.zero_add, cell_of_row _ _ j _ _ _ (boxF_row w f)]
  have := fcl_id hf j v (by simpa using hv)
  simpa using this
theorem boxF_base (w : World) (f : Face) (hf : f.id.length = 16) : (boxF w f).cell? ⟨w.heap.size, 16, none⟩ = some (.int .i64 f.base) := by
  rw [cell_of_row _ _ 16 _ _ _ (boxF_row w f)]
  have := fcl_base hf
  simpa using this
def ffV : Option Nat → Int
  | some a => (a : Int)
  | none => 0
def ffE : Option Nat → Int
  | some _ => 0
  | none => 7
set_option maxHeartbeats 1000000 in
set_option maxRecDepth 100000 in
theorem Find_any (w : World) (ad : Option Addr) (N cap : Nat) (l : List Face) (g : List Int) (hg : g.length = 16) (hF : FRow w w.heap.size ad l) (hN : N = l.length) (hN2 : N ≤ 100000) :
    Calls Try.prog 17 #[.slice ad N cap, .agg (u8s g)] w fun e w' => e = .returned (.tuple #[.int .i64 (ffV (findL l g)), .int .i64 (ffE (findL l g))]) ∧ Below w.heap.size w w' := by
  have HF := hid hF
  have HN := hid hN
  have HG := hid hg
  clear hF hN hg
  go_enter Try.func17, Try.ntmps17
  go_wp2
  have hid0 : AtL (w.alloc (.cells (u8s g) 28)) w.heap.size 0 (u8s g).toList := AtL.row (by simpa using heap_alloc_new w (.cells (u8s g) 28))
  have hB0 : Below w.heap.size w (w.alloc (.cells (u8s g) 28)) := (Below.refl _ _).alloc (Nat.le_refl _) _
  obtain ⟨w1, hw1⟩ : ∃ w1, w1 = w.alloc (.cells (u8s g) 28) := ⟨_, rfl⟩
  rw [← hw1] at hid0 hB0 ⊢
  have HI := hid hid0
  have HB0 := hid hB0
  clear hid0 hB0 hw1
  go_loopw [10] (fun p wr => ∃ q : Nat, q ≤ N ∧ p = .int .i64 q ∧ RowKit.Hid (∀ i f, i < q → l[i]? = some f → f.id ≠ g) ∧ RowKit.Hid (Fr (fun _ => False) w1 wr)) (fun p _ => N - (intOf p).toNat)
  case atStart => exact ⟨0, by omega, rfl, hid (fun i f h => by omega), hid (Fr.refl _ _)⟩
  case round =>
    obtain ⟨q, hq, rfl, HP, HFr⟩ := hrel
    by_cases hql : q < N
    · have hx : l[q]? = some (l[q]'(by have := HN.out; omega)) := List.getElem?_eq_getElem (by have := HN.out; omega)
      generalize (l[q]'(by have := HN.out; omega)) = f at hx
      have hfi := HF.out.len f (List.mem_of_getElem? hx)
      obtain ⟨b, o, rfl, hb⟩ := HF.out.some (by have := HN.out; omega)
      have he := fun W => eq28 f.id g hfi HG.out W
      have hgd := guard28
      have HA := hid (((HF.out.below HB0.out).face hx).fr HFr.out)
      have HX := hid hx
      have HFI := hid hfi
      clear hx hfi hb
      have H1 := hid (boxF_id wr f HFI.out)
      have H2 := hid (((HI.out.fr HFr.out).fr (boxF_fr wr f)))
      have H3 := hid (HFr.out.trans (boxF_fr wr f) (fun _ h _ => h))
      have HIN := hid (fcl_info HFI.out)
      by_cases heq : f.id = g
      · have e1 : (f.id == g) = true := by simpa using heq
        rw [e1] at he
        have hfd : findL l g = some q := find_at HX.out heq HP.out
        have HFD := hid hfd
        clear heq e1 hfd
        go_wp2_with (first
          | ((with_reducible refine at_op ⟨some 14, _, _, _, _, _⟩ ?_); refine wpList_run rfl _ (load_face rfl rfl HA.out HFI.out) ?_)
          | ((with_reducible refine at_op ⟨none, .store 30 (.tmp 7) (.tmp 14), _, _, _, _⟩ ?_); refine wpList_store_row rfl 30 _ _ rfl wr.heap.size (fcl f).toArray rfl rfl 30 f0 (heap_alloc_new _ _) HIN.out (f0_size HFI.out) fcl_one ?_)
          | ((with_reducible refine at_op ⟨some 16, _, _, _, _, _⟩ ?_); refine wpList_run rfl _ (load_id rfl rfl H1.out HFI.out) ?_)
          | ((with_reducible refine at_op ⟨some 17, _, _, _, _, _⟩ ?_); refine wpList_run rfl _ (load_id rfl rfl H2.out HG.out) ?_))
        go_ret2
        refine ⟨by rw [HFD.out]; rfl, ⟨H3.out.os.trans HB0.out.os, H3.out.tape.trans HB0.out.tape, H3.out.output.trans HB0.out.output, Nat.le_trans HB0.out.size H3.out.size, fun k hk => (H3.out.block k (by have := HB0.out.size; omega) (fun h => h)).trans (HB0.out.block k hk)⟩⟩
      · have e1 : (f.id == g) = false := by simpa using heq
        rw [e1] at he
        have HE := hid heq
        clear heq e1
        go_wp2_with (first
          | ((with_reducible refine at_op ⟨some 14, _, _, _, _, _⟩ ?_); refine wpList_run rfl _ (load_face rfl rfl HA.out HFI.out) ?_)
          | ((with_reducible refine at_op ⟨none, .store 30 (.tmp 7) (.tmp 14), _, _, _, _⟩ ?_); refine wpList_store_row rfl 30 _ _ rfl wr.heap.size (fcl f).toArray rfl rfl 30 f0 (heap_alloc_new _ _) HIN.out (f0_size HFI.out) fcl_one ?_)
          | ((with_reducible refine at_op ⟨some 16, _, _, _, _, _⟩ ?_); refine wpList_run rfl _ (load_id rfl rfl H1.out HFI.out) ?_)
          | ((with_reducible refine at_op ⟨some 17, _, _, _, _, _⟩ ?_); refine wpList_run rfl _ (load_id rfl rfl H2.out HG.out) ?_))
        go_roundw
        case rel =>
          refine ⟨q + 1, by omega, by go_num, hid (fun i f' hi hf' => ?_), H3⟩
          by_cases hiq : i = q
          · subst hiq
            rw [HX.out] at hf'; cases hf'
            exact HE.out
          · exact HP.out i f' (by omega) hf'
        case measure => simp [intOf]; omega
    · obtain rfl : q = N := by omega
      have hfd : findL l g = none := find_none (fun f hf => by
        obtain ⟨i, hi⟩ := List.mem_iff_getElem?.1 hf
        exact HP.out i f (by have := HN.out; have := (List.getElem?_eq_some_iff.1 hi).1; omega) hi)
      have HFD := hid hfd
      clear hfd
      go_wp2
      go_ret2
      refine ⟨by rw [HFD.out]; rfl, ⟨HFr.out.os.trans HB0.out.os, HFr.out.tape.trans HB0.out.tape, HFr.out.output.trans HB0.out.output, Nat.le_trans HB0.out.size HFr.out.size, fun k hk => (HFr.out.block k (by have := HB0.out.size; omega) (fun h => h)).trans (HB0.out.block k hk)⟩⟩
end Go.Proofs.Ytpcgplcpfbgcfaa
