/- FcFp FcB FcKp in one -/
import Derived.Test.YtgfimkeopohjaaaDoorFcKr
import Derived.Test.YtgfimkeopohjaaaDoorClEn
import Derived.Test.YtgfimkeopohjaaaDoorFcG
namespace Go.Proofs.YtgfimkeopohjaaaDoor
open Go Go.ChangeShapes Go.WideShapes Go.ChangeAt Go.RowKit

def ffV : Option Nat → Int
  | some a => (a : Int)
  | none => 0
def ffE : Option Nat → Int
  | some _ => 0
  | none => 7
set_option maxHeartbeats 1000000 in
set_option maxRecDepth 100000 in
theorem Find_any (w : World) (ad : Option Addr) (N cap : Nat) (l : List Face) (g : List Int) (hg : g.length = 16) (hF : FRow w w.heap.size ad l) (hN : N = l.length) (hN2 : N ≤ 100000) :
    Calls Tryd.prog 44 #[.slice ad N cap, .agg (u8s g)] w fun e w' => e = .returned (.tuple #[.int .i64 (ffV (findL l g)), .int .i64 (ffE (findL l g))]) ∧ Below w.heap.size w w' := by
  have HF := hid hF
  have HN := hid hN
  have HG := hid hg
  clear hF hN hg
  go_enter Tryd.func44, Tryd.ntmps44
  go_wp2
  have hid0 : AtL (w.alloc (.cells (u8s g) 34)) w.heap.size 0 (u8s g).toList := AtL.row (by simpa using heap_alloc_new w (.cells (u8s g) 34))
  have hB0 : Below w.heap.size w (w.alloc (.cells (u8s g) 34)) := (Below.refl _ _).alloc (Nat.le_refl _) _
  obtain ⟨w1, hw1⟩ : ∃ w1, w1 = w.alloc (.cells (u8s g) 34) := ⟨_, rfl⟩
  rw [← hw1] at hid0 hB0 ⊢
  have HI := hid hid0
  have HB0 := hid hB0
  clear hid0 hB0 hw1
  go_loopw [10] (fun p wr => ∃ q : Nat, q ≤ N ∧ p = .int .i64 q ∧ RowKit.Hid (∀ i f, i < q → l[i]? = some f → f.id ≠ g) ∧ RowKit.Hid (Fr (fun _ => False) w1 wr)) (fun p _ => N - (intOf p).toNat)
  case atStart => exact ⟨0, by omega, rfl, hid (fun i f h => by omega), hid (Fr.refl _ _)⟩
  case round =>
    obtain ⟨q, hq, rfl, HP, HFr⟩ := hrel
    by_cases hql : q < N
    · have hx : l[q]? = some (l[q]'(by have := HN.out; omega)) := List.getElem?_eq_getElem (by have := HN.out; omega)
      generalize (l[q]'(by have := HN.out; omega)) = f at hx
      have hfi := HF.out.len f (List.mem_of_getElem? hx)
      obtain ⟨b, o, rfl, hb⟩ := HF.out.some (by have := HN.out; omega)
      have he := fun W => eq28 f.id g hfi HG.out W
      have hgd := guard28
      have HA := hid (((HF.out.below HB0.out).face hx).fr HFr.out)
      have HX := hid hx
      have HFI := hid hfi
      clear hx hfi hb
      have H1 := hid (boxF_id wr f HFI.out)
      have H2 := hid (((HI.out.fr HFr.out).fr (boxF_fr wr f)))
      have H3 := hid (HFr.out.trans (boxF_fr wr f) (fun _ h _ => h))
      have HIN := hid (fcl_info HFI.out)
      by_cases heq : f.id = g
      · have e1 : (f.id == g) = true := by simpa using heq
        rw [e1] at he
        have hfd : findL l g = some q := find_at HX.out heq HP.out
        have HFD := hid hfd
        clear heq e1 hfd
        go_wp2_with (first
          | ((with_reducible refine at_op ⟨some 14, _, _, _, _, _⟩ ?_); refine wpList_run rfl _ (load_face rfl rfl HA.out HFI.out) ?_)
          | ((with_reducible refine at_op ⟨none, .store 74 (.tmp 7) (.tmp 14), _, _, _, _⟩ ?_); refine wpList_store_row rfl 74 _ _ rfl wr.heap.size (fcl f).toArray rfl rfl 74 f0 (heap_alloc_new _ _) HIN.out (f0_size HFI.out) fcl_one ?_)
          | ((with_reducible refine at_op ⟨some 16, _, _, _, _, _⟩ ?_); refine wpList_run rfl _ (load_id rfl rfl H1.out HFI.out) ?_)
          | ((with_reducible refine at_op ⟨some 17, _, _, _, _, _⟩ ?_); refine wpList_run rfl _ (load_id rfl rfl H2.out HG.out) ?_))
        go_ret2
        refine ⟨by rw [HFD.out]; rfl, ⟨H3.out.os.trans HB0.out.os, H3.out.tape.trans HB0.out.tape, H3.out.output.trans HB0.out.output, Nat.le_trans HB0.out.size H3.out.size, fun k hk => (H3.out.block k (by have := HB0.out.size; omega) (fun h => h)).trans (HB0.out.block k hk)⟩⟩
      · have e1 : (f.id == g) = false := by simpa using heq
        rw [e1] at he
        have HE := hid heq
        clear heq e1
        go_wp2_with (first
          | ((with_reducible refine at_op ⟨some 14, _, _, _, _, _⟩ ?_); refine wpList_run rfl _ (load_face rfl rfl HA.out HFI.out) ?_)
          | ((with_reducible refine at_op ⟨none, .store 74 (.tmp 7) (.tmp 14), _, _, _, _⟩ ?_); refine wpList_store_row rfl 74 _ _ rfl wr.heap.size (fcl f).toArray rfl rfl 74 f0 (heap_alloc_new _ _) HIN.out (f0_size HFI.out) fcl_one ?_)
          | ((with_reducible refine at_op ⟨some 16, _, _, _, _, _⟩ ?_); refine wpList_run rfl _ (load_id rfl rfl H1.out HFI.out) ?_)
          | ((with_reducible refine at_op ⟨some 17, _, _, _, _, _⟩ ?_); refine wpList_run rfl _ (load_id rfl rfl H2.out HG.out) ?_))
        go_roundw
        case rel =>
          refine ⟨q + 1, by omega, by go_num, hid (fun i f' hi hf' => ?_), H3⟩
          by_cases hiq : i = q
          · subst hiq
            rw [HX.out] at hf'; cases hf'
            exact HE.out
          · exact HP.out i f' (by omega) hf'
        case measure => simp [intOf]; omega
    · obtain rfl : q = N := by omega
      have hfd : findL l g = none := find_none (fun f hf => by
        obtain ⟨i, hi⟩ := List.mem_iff_getElem?.1 hf
        exact HP.out i f (by have := HN.out; have := (List.getElem?_eq_some_iff.1 hi).1; omega) hi)
      have HFD := hid hfd
      clear hfd
      go_wp2
      go_ret2
      refine ⟨by rw [HFD.out]; rfl, ⟨HFr.out.os.trans HB0.out.os, HFr.out.tape.trans HB0.out.tape, HFr.out.output.trans HB0.out.output, Nat.le_trans HB0.out.size HFr.out.size, fun k hk => (HFr.out.block k (by have := HB0.out.size; omega) (fun h => h)).trans (HB0.out.block k hk)⟩⟩
end Go.Proofs.YtgfimkeopohjaaaDoor

namespace Go.Proofs.YtgfimkeopohjaaaDoor
open Go Go.ChangeShapes Go.WideShapes Go.ChangeAt Go.RowKit

theorem leads_any (i b : Int) (w : World) : Calls Tryd.prog 51 #[.int .i64 i, .int .i64 b] w fun e w' => e = .returned (.bool (decide (0 ≤ b) && decide (b < i))) ∧ w = w' := by
  by_cases h : 0 ≤ b
  · have h0 : decide (0 ≤ b) = true := by simpa using h
    have e : (decide (0 ≤ b) && decide (b < i)) = decide (b < i) := by simp [h]
    have E := hid e
    clear h e
    go_enter Tryd.func51, Tryd.ntmps51
    go_wp2
    go_ret
    exact ⟨ret_bool E.out.symm, rfl⟩
  · have h0 : decide (0 ≤ b) = false := by simpa using h
    have e : (decide (0 ≤ b) && decide (b < i)) = false := by simp [h]
    have E := hid e
    clear h e
    go_enter Tryd.func51, Tryd.ntmps51
    go_wp2
    go_ret
    exact ⟨ret_bool E.out.symm, rfl⟩
theorem base_any (i : Nat) (b : Int) (w : World) : Calls Tryd.prog 43 #[.int .i64 i, .int .i64 b] w fun e w' => e = .returned (.bool (baseOk i b)) ∧ w = w' := by
  by_cases h : i = 0
  · have e : baseOk i b = decide (b = -1) := by unfold baseOk; rw [if_pos h]
    have E := hid e
    clear e
    subst h
    go_enter Tryd.func43, Tryd.ntmps43
    go_wp2
    go_ret
    exact ⟨ret_bool (by rw [E.out]; rfl), rfl⟩
  · have e : baseOk i b = (decide (0 ≤ b) && decide (b < (i : Int))) := by unfold baseOk; rw [if_neg h]; simp
    have E := hid e
    have h0 : ((i : Int) == 0) = false := by simp; omega
    clear e h
    go_enter Tryd.func43, Tryd.ntmps43
    go_wp2_with (go_at_call 51; refine (leads_any _ _ _).mono ?_; rintro e w' ⟨rfl, rfl⟩)
    go_ret
    exact ⟨ret_bool E.out.symm, rfl⟩
end Go.Proofs.YtgfimkeopohjaaaDoor

namespace Go.Proofs.YtgfimkeopohjaaaDoor
open Go Go.ChangeShapes Go.WideShapes Go.ChangeAt Go.RowKit

/-- A number is loaded. -/
theorem load_int {o : Oper} {f : Operand → Value} {p : Operand} {a : Addr} {x : Int} {W : World} (ho : o.op = .load 3 p) (hp : f p = .pointer (some a)) (h : W.cell? a = some (.int .i64 x)) : (execOp f o).run Tryd.prog W = .ok (.value (.int .i64 x)) W := by
  unfold execOp
  simp only [ho, hp, Instr.loadAt, Instr.sureAddr, Sem.run_bind, Sem.run_pure, Result.andThen_ok]
  have : (loadVar 3 a).run Tryd.prog W = .ok (.int .i64 x) W := by
    simp [loadVar, isAgg, run_underlying Tryd.underlying3, h]
  rw [this]
  rfl
set_option maxHeartbeats 2000000 in
set_option maxRecDepth 100000 in
theorem FCheck_any (w : World) (ad : Option Addr) (N cap : Nat) (l : List Face) (hF : FRow w w.heap.size ad l) (hN : N = l.length) (hN2 : N ≤ 100000) (hcap : N ≤ cap) (hcap2 : cap ≤ 9223372036854775807) :
    Calls Tryd.prog 29 #[.slice ad N cap] w fun e w' => e = .returned (.int .i64 (checkL l)) ∧ Below w.heap.size w w' := by
  have HF := hid hF
  have HN := hid hN
  clear hF hN
  by_cases hlen : N < 1 ∨ 16 < N
  · have hc : checkL l = 20 := by unfold checkL; rw [if_pos (by have := HN.out; omega)]
    have HC := hid hc
    clear hc
    by_cases h1 : N < 1
    · have d1 : decide ((N : Int) < 1) = true := by simp; omega
      clear hlen h1 HF
      go_enter Tryd.func29, Tryd.ntmps29
      go_wp2
      go_ret
      exact ⟨by rw [HC.out]; rfl, Below.refl _ _⟩
    · have d1 : decide ((N : Int) < 1) = false := by simp; omega
      have d2 : decide ((16 : Int) < (N : Int)) = true := by simp; omega
      clear hlen h1 HF
      go_enter Tryd.func29, Tryd.ntmps29
      go_wp2
      go_ret
      exact ⟨by rw [HC.out]; rfl, Below.refl _ _⟩
  · have hc : checkL l = checkFrom l 0 (l.drop 0) := by unfold checkL; rw [if_neg (by have := HN.out; omega)]; rfl
    have HC := hid hc
    have d1 : decide ((N : Int) < 1) = false := by simp; omega
    have d2 : decide ((16 : Int) < (N : Int)) = false := by simp; omega
    have hn16 : N ≤ 16 := by omega
    clear hlen hc
    go_enter Tryd.func29, Tryd.ntmps29
    go_wp2
    clear d1 d2
    go_loopw [17] (fun p wr => ∃ q : Nat, q ≤ N ∧ p = .int .i64 q ∧ RowKit.Hid (checkL l = checkFrom l q (l.drop q)) ∧ RowKit.Hid (Below w.heap.size w wr)) (fun p _ => N - (intOf p).toNat)
    case atStart => exact ⟨0, by omega, rfl, HC, hid (Below.refl _ _)⟩
    case round =>
      obtain ⟨q, hq, rfl, HCq, HB⟩ := hrel
      by_cases hql : q < N
      · have hx : l[q]? = some (l[q]'(by have := HN.out; omega)) := List.getElem?_eq_getElem (by have := HN.out; omega)
        generalize (l[q]'(by have := HN.out; omega)) = f at hx
        have hfi := HF.out.len f (List.mem_of_getElem? hx)
        obtain ⟨b, o, rfl, hb⟩ := HF.out.some (by have := HN.out; omega)
        have HFI := hid hfi
        have HA := hid ((HF.out.below HB.out).face hx)
        have HIN := hid (fcl_info hfi)
        have hst := check_step hx
        have HB1 := hid (boxF_base wr f hfi)
        have H1 := hid (boxF_id wr f hfi)
        have hb3 : Below w.heap.size w (boxF wr f) := HB.out.trans ((boxF_fr wr f).below HB.out.size (fun _ h => h.elim))
        have HB3 := hid hb3
        have HBB := hid hb
        have hqt : q = (l.take q).length := by have := HN.out; simp; omega
        have HFD := hid (fun (W : World) (h : Below w.heap.size w W) => Find_any W _ q cap (l.take q) f.id hfi ((HF.out.on h).take q) hqt (by omega))
        clear hx hfi hb hb3 hqt
        cases hbo : baseOk q f.base with
        | false =>
          rw [hbo] at hst
          simp only [Bool.false_eq_true, if_false] at hst
          have HST := hid hst
          have hbase := hid (fun W => base_any q f.base W)
          clear hst
          go_wp2_with (first
            | ((with_reducible refine at_op ⟨some 21, _, _, _, _, _⟩ ?_); refine wpList_run rfl _ (load_face rfl rfl HA.out HFI.out) ?_)
            | ((with_reducible refine at_op ⟨none, .store 74 (.tmp 4) (.tmp 21), _, _, _, _⟩ ?_); refine wpList_store_row rfl 74 _ _ rfl wr.heap.size (fcl f).toArray rfl rfl 74 f0 (heap_alloc_new _ _) HIN.out (f0_size HFI.out) fcl_one ?_)
            | ((with_reducible refine at_op ⟨some 24, _, _, _, _, _⟩ ?_); refine wpList_run rfl _ (load_int rfl rfl HB1.out) ?_)
            | (go_at_call 43; refine (hbase.out _).mono ?_; rintro e w' ⟨rfl, rfl⟩))
          go_ret
          exact ⟨by rw [HCq.out, HST.out]; rfl, HB3.out⟩
        | true =>
          rw [hbo] at hst
          simp only [if_true] at hst
          have hbase := hid (fun W => base_any q f.base W)
          have HBO := hid hbo
          go_wp2_with (first
            | ((with_reducible refine at_op ⟨some 21, _, _, _, _, _⟩ ?_); refine wpList_run rfl _ (load_face rfl rfl HA.out HFI.out) ?_)
            | ((with_reducible refine at_op ⟨none, .store 74 (.tmp 4) (.tmp 21), _, _, _, _⟩ ?_); refine wpList_store_row rfl 74 _ _ rfl wr.heap.size (fcl f).toArray rfl rfl 74 f0 (heap_alloc_new _ _) HIN.out (f0_size HFI.out) fcl_one ?_)
            | ((with_reducible refine at_op ⟨some 24, _, _, _, _, _⟩ ?_); refine wpList_run rfl _ (load_int rfl rfl HB1.out) ?_)
            | (go_at_call 43; refine (hbase.out _).mono ?_; rintro e w' ⟨rfl, rfl⟩))
          have hbd : Below w.heap.size w (boxF wr f).drew := HB3.out.drew
          have HBD := hid hbd
          have HSS := hid (show AtL (boxF wr f).drew wr.heap.size 0 (u8s f.id).toList from H1.out)
          have HFC := hid (HFD.out _ hbd)
          change Code.wp _ _ _ _ (boxF wr f)
          obtain ⟨W4, hW4⟩ : ∃ W4, W4 = boxF wr f := ⟨_, rfl⟩
          rw [← hW4] at HBD HSS HFC ⊢
          clear hW4 hbd
          have hqc : q ≤ cap := by omega
          refine D.wp_region_mix [0, 0, 0, 0, 1, 3, 0, 0, 0, 0, 0] (fun W => AtL W wr.heap.size 0 (u8s f.id).toList) (by kernel_rfl) (by kernel_rfl) HSS.out ?_
          repeat (first
            | (refine C.wpMix_read _ rfl rfl (fun W hS => load_id rfl rfl hS HFI.out) ?_; simp only [Act.put, List.setIfInBounds_toArray, List.set_cons_zero, List.set_cons_succ])
            | (refine' C.wpMix_value _ rfl rfl _ _; rotate_left; (solve | (intro W; go_simp) | (intro W; go_simp; with_reducible rfl)); simp only [Act.put, List.setIfInBounds_toArray, List.set_cons_zero, List.set_cons_succ]))
          refine C.wpMix_call 44 #[.slice (some ⟨b, o, none⟩) q cap, .agg (u8s f.id)] (by decide) rfl (by go_simp) ?_
          refine HFC.out.mono ?_
          rintro e w5 ⟨rfl, hb5⟩
          refine ⟨_, rfl, (fun h => by cases h), ?_⟩
          simp only [Act.put, List.setIfInBounds_toArray, List.set_cons_zero, List.set_cons_succ]
          repeat (first
            | (refine' C.wpMix_value _ rfl rfl _ _; rotate_left; (solve | (intro W; go_simp) | (intro W; go_simp; with_reducible rfl)); simp only [Act.put, List.setIfInBounds_toArray, List.set_cons_zero, List.set_cons_succ]))
          refine C.wpMix_end ?_
          have HB5 := hid (HBD.out.trans (hb5.mono HBD.out.size))
          clear hb5
          cases hfd : findL (l.take q) f.id with
          | some y =>
            rw [hfd] at hst
            simp only [Option.isSome_some, if_true] at hst
            have HST := hid hst
            have he : ffE (some y) = 0 := rfl
            clear hst hfd
            go_wp2
            go_ret
            exact ⟨by rw [HCq.out, HST.out]; rfl, HB5.out⟩
          | none =>
            rw [hfd] at hst
            simp only [Option.isSome_none, Bool.false_eq_true, if_false] at hst
            have HST := hid hst
            have he : ffE none = 7 := rfl
            clear hst hfd
            go_wp2
            go_roundw
            case rel => exact ⟨q + 1, by omega, by go_num, hid (by rw [HCq.out, HST.out]), HB5⟩
            case measure => simp [intOf]; omega
      · obtain rfl : q = N := by omega
        have he : checkL l = 0 := by rw [HCq.out, HN.out]; exact check_end
        have HE := hid he
        clear he
        go_wp2
        go_ret
        exact ⟨by rw [HE.out]; rfl, HB.out⟩
end Go.Proofs.YtgfimkeopohjaaaDoor
