/- RaC RaD HrA HrB HrC HrE in one -/
import Derived.Test.YtmkajdfajcodjaaRaB
import Derived.Test.YtmkajdfajcodjaaHqE
import Derived.Test.YtmkajdfajcodjaaMixC
import Derived.Test.YtmkajdfajcodjaaMixD
import Derived.Test.YtmkajdfajcodjaaHqS
namespace Go.Proofs.Ytmkajdfajcodjaa
open Go Go.ChangeShapes Go.WideShapes Go.ChangeAt Go.RowKit

theorem spot_of {A : Ar} {R : List RSpot} (hL : A.L = R.map toSpot) {i : Nat} {s : Spot} (hs : A.L[i]? = some s) : ∃ r, R[i]? = some r ∧ toSpot r = s := by
  rw [hL, List.getElem?_map] at hs
  cases hq : R[i]? with
  | none => rw [hq] at hs; cases hs
  | some r => rw [hq] at hs; exact ⟨r, rfl, Option.some.inj hs⟩
def RDropPost (S : Nat → Prop) (w : World) (p : Nat) (A' : Ar) (e : Ending) (w' : World) : Prop := ∃ v, e = .returned v ∧ RInS (ext S w w') w' p A' ∧ Fr S w w'
set_option maxHeartbeats 1000000 in
theorem RDrop_worn (S : Nat → Prop) (w : World) (p : Nat) (A : Ar) (i : Nat) (s : Spot) (h : RInS S w p A) (hs : A.L[i]? = some s) (ht : s.t = true) (hw : ¬ s.g < 4294967295) :
    Calls Try.prog 76 #[.pointer (some ⟨p, 0, none⟩), .int .i64 i] w (RDropPost S w p (dropAt A i s)) := by
  obtain ⟨cv, fv, R, h1, h2, h3, h4, h5, h6⟩ := h
  have hgen := h2.gen i s hs
  have hok := drop_ok h2 hs ht
  obtain ⟨r, hr, hrs⟩ := spot_of h1.hR hs
  have hrg : (r.g : Int) = 4294967295 := by have : r.g = s.g := by rw [← hrs]; rfl
                                            omega
  obtain ⟨b, k, hcv⟩ := h1.form hr
  subst hcv
  have hrlt : i < R.length := (List.getElem?_eq_some_iff.1 hr).1
  have hRl : R.length ≤ 65536 := by have := h1.len; have := h2.len; have := h2.m2; omega
  have c2 := h1.c2
  have g0 := h1.at hr rfl 0 (by omega)
  have g1 := h1.at hr rfl 1 (by omega)
  have g2 := h1.at hr rfl 2 (by omega)
  simp only [RSpot.cells, List.getElem?_cons_succ, List.getElem?_cons_zero] at g0 g1 g2
  rw [Nat.add_zero] at g0
  have z0 := h1.hc.frozenAt (i * 3)
  have z2 := h1.hc.frozenAt (i * 3 + 2)
  have hbp : b ≠ p := fun e => h1.d1 (by rw [e]; rfl)
  have hpb : p ≠ b := Ne.symm hbp
  have r2 := h1.setL (s' := ⟨0, r.g, r.s⟩) rfl hr 0 (.int .i64 0) (by omega) rfl
  have r3 := r2.setL (s := ⟨0, r.g, r.s⟩) (s' := ⟨0, r.g, 2⟩) (by simp) (List.getElem?_set_self hrlt) 2 (.int .i64 2) (by omega) rfl
  have hdr : dropAt A i s = { A with L := ((R.set i ⟨0, r.g, r.s⟩).set i ⟨0, r.g, 2⟩).map toSpot } := by
    unfold dropAt
    rw [if_neg hw, List.set_set, List.map_set, h1.hR, ← hrs]; rfl
  have hfr : Fr S w ((w.setCell ⟨b, i * 3 + 0, none⟩ (.int .i64 0)).setCell ⟨b, i * 3 + 2, none⟩ (.int .i64 2)) :=
    ((Fr.refl _ _).setCell _ _ (fun _ => h4 b rfl)).setCell _ _ (fun _ => h4 b rfl)
  have R3 := hid r3
  have HD := hid hdr
  have HR := hid hfr
  have HO := hid hok
  have H4 := hid h4
  have H5 := hid h5
  have H6 := hid h6
  rw [hrg] at g1
  clear r2 r3 hdr hfr hok h4 h5 h6 h1 h2 hs ht hw hr hrs hgen
  generalize R.length = nr at *
  clear hrg
  go_enter Try.func76, Try.ntmps76
  go_wp2
  refine bodyPost_ret (results_none rfl _ _ _) rfl ?_
  refine ⟨_, rfl, ⟨.slice (some ⟨b, 0, none⟩) nr k, fv, (R.set i ⟨0, r.g, r.s⟩).set i ⟨0, r.g, 2⟩, by rw [HD.out]; exact R3.out, HO.out, .inl h3, fun q hq => .inl (H4.out q hq), fun q hq => .inl (H5.out q hq), fun q hq => ?_⟩, HR.out⟩
  rcases hq with hq | hq
  · exact Nat.lt_of_lt_of_le (H6.out q hq) HR.out.size
  · exact hq.2

set_option maxHeartbeats 1000000 in
set_option maxRecDepth 100000 in
theorem RDrop_again (S : Nat → Prop) (w : World) (p : Nat) (A : Ar) (i : Nat) (s : Spot) (h : RInS S w p A) (hs : A.L[i]? = some s) (ht : s.t = true) (hw : s.g < 4294967295) :
    Calls Try.prog 76 #[.pointer (some ⟨p, 0, none⟩), .int .i64 i] w (RDropPost S w p (dropAt A i s)) := by
  obtain ⟨cv, fv, R, h1, h2, h3, h4, h5, h6⟩ := h
  have hok := drop_ok h2 hs ht
  obtain ⟨r, hr, hrs⟩ := spot_of h1.hR hs
  have hrg : r.g = s.g := by rw [← hrs]; rfl
  obtain ⟨b, k, hcv⟩ := h1.form hr
  subst hcv
  have hrlt : i < R.length := (List.getElem?_eq_some_iff.1 hr).1
  have hRl : R.length ≤ 65536 := by have := h1.len; have := h2.len; have := h2.m2; omega
  have hFl : A.F.length ≤ 65536 := by have := h2.fl; have := h2.len; have := h2.m2; omega
  have c2 := h1.c2
  have c3 := h1.c3
  have z3 := h1.fz 3
  have g0 := h1.at hr rfl 0 (by omega)
  have g1 := h1.at hr rfl 1 (by omega)
  have g2 := h1.at hr rfl 2 (by omega)
  simp only [RSpot.cells, List.getElem?_cons_succ, List.getElem?_cons_zero] at g0 g1 g2
  rw [Nat.add_zero] at g0
  have z0 := h1.hc.frozenAt (i * 3)
  have z1 := h1.hc.frozenAt (i * 3 + 1)
  have z2 := h1.hc.frozenAt (i * 3 + 2)
  have hbp : b ≠ p := fun e => h1.d1 (by rw [e]; rfl)
  have hpb : p ≠ b := Ne.symm hbp
  have r2 := h1.setL (s' := ⟨0, r.g, r.s⟩) rfl hr 0 (.int .i64 0) (by omega) rfl
  have r3 := r2.setL (s := ⟨0, r.g, r.s⟩) (s' := ⟨0, r.g, 0⟩) (by simp) (List.getElem?_set_self hrlt) 2 (.int .i64 0) (by omega) rfl
  have r4 := r3.setL (s := ⟨0, r.g, 0⟩) (s' := ⟨0, r.g + 1, 0⟩) (by simp) (List.getElem?_set_self (by simpa using hrlt)) 1 (.int .u32 ((r.g : Int) + 1)) (by omega) (by simp [RSpot.cells])
  have hdr : dropAt A i s = { A with L := (((R.set i ⟨0, r.g, r.s⟩).set i ⟨0, r.g, 0⟩).set i ⟨0, r.g + 1, 0⟩).map toSpot, F := A.F ++ [i] } := by
    unfold dropAt
    rw [if_pos hw, List.set_set, List.set_set, List.map_set, h1.hR, ← hrs]; rfl
  have hfr : Fr S w (((w.setCell ⟨b, i * 3 + 0, none⟩ (.int .i64 0)).setCell ⟨b, i * 3 + 2, none⟩ (.int .i64 0)).setCell ⟨b, i * 3 + 1, none⟩ (.int .u32 ((r.g : Int) + 1))) :=
    (((Fr.refl _ _).setCell _ _ (fun _ => h4 b rfl)).setCell _ _ (fun _ => h4 b rfl)).setCell _ _ (fun _ => h4 b rfl)
  have hb : ((r.g : Int) == 4294967295) = false := by simp; omega
  have hwr : IntKind.u32.wrap ((r.g : Int) + 1) = (r.g : Int) + 1 := IntWalk.u32_in _ (by omega)
  have hm9 : A.F.length + 1 ≤ maxLen := by unfold maxLen; omega
  obtain ⟨i0, hi, hz0, hz1, hz2⟩ := info_parts infoNE
  have hi' := hid hi
  have hz0' := hid hz0
  have hz1' := hid hz1
  have hz2' := hid hz2
  have R4 := hid r4
  have HD := hid hdr
  have HR := hid hfr
  have HO := hid hok
  have H4 := hid h4
  have H5 := hid h5
  have H6 := hid h6
  clear hi hz0 hz1 hz2 r2 r3 r4 hdr hfr hok h4 h5 h6 h1 h2 hs ht hw hr hrs hrg
  generalize hnr : R.length = nr at *
  clear hnr
  generalize hrgg : r.g = rg at *
  have HRG := hid hrgg
  clear hrgg
  go_enter Try.func76, Try.ntmps76
  go_upto_region 5 with fail
  obtain ⟨w4, hw4⟩ : ∃ w4, w4 = ((w.setCell ⟨b, i * 3, none⟩ (.int .i64 0)).setCell ⟨b, i * 3 + 2, none⟩ (.int .i64 0)).setCell ⟨b, i * 3 + 1, none⟩ (.int .u32 ((rg : Int) + 1)) := ⟨_, rfl⟩
  rw [← hw4]
  have k4 : RefW w4 p (.slice (some ⟨b, 0, none⟩) nr k) fv { A with L := (((R.set i ⟨0, rg, r.s⟩).set i ⟨0, rg, 0⟩).set i ⟨0, rg + 1, 0⟩).map toSpot } (((R.set i ⟨0, rg, r.s⟩).set i ⟨0, rg, 0⟩).set i ⟨0, rg + 1, 0⟩) := by rw [hw4]; exact R4.out
  have hfr4 : Fr S w w4 := by rw [hw4]; exact HR.out
  have HSZ := hid (show w4.heap.size = w.heap.size by rw [hw4]; simp)
  have C3 := k4.c3
  have Z3 := k4.fz 3
  have P4 := k4.lt
  have D2 := k4.d2
  have K5 := hid k4
  have F4 := hid hfr4
  clear hw4 k4 hfr4 R4 HR g0 g1 g2 c2 c3 z0 z1 z2 z3 hwr hb
  go_wp2_with (at_builtin; refine wpList_append_lies _ (o := ⟨some 52, _, _, _, _, _⟩) rfl (.tmp 49) (.tmp 51) 57 rfl 0 3 i0 (.int .i64 0) 1 8 Try.underlying57 hi'.out hz0'.out hz1'.out hz2'.out rfl (by decide) fv A.F.length (rowF A.F) rfl (K5.out.hf.alloc _) ⟨w4.heap.size, 0, none⟩ 1 1 [.int .i64 i] rfl rfl (one_news _ _ _ _ rfl) (by simp [Value.oneCell']) (by decide) hm9 (by omega) (Nat.zero_le _) (w4.heap.size + 1) (by simp) ?_; intro g5 k5 w5 hown5 hgrow5 hat5 hlt5; have hb5 : w5.heap[p]? = w4.heap[p]? := (by rw [hgrow5.block p (by simp; omega) (fun e => D2 e.symm)]; exact Below.heap_alloc _ _ _ P4); have c35 : w5.cell? ⟨p, 3, none⟩ = some fv := (World.cell?_of_block hb5).trans C3; have z35 : w5.frozen? ⟨p, 3, none⟩ = false := (World.frozen?_of_block hb5).trans Z3; have HO5 := hid hown5; have HG5 := hid hgrow5; have HA5 := hid hat5; have HB5 := hid hb5; clear hown5 hgrow5 hat5 hb5)
  refine bodyPost_ret (results_none rfl _ _ _) rfl ?_
  have hsz := HSZ.out
  have hown : ∀ j, (Value.slice (some ⟨g5, 0, none⟩) (A.F.length + 1) k5).ownBlock = some j → fv.ownBlock = some j ∨ w4.heap.size ≤ j := fun j hj => by
    simp [Value.ownBlock] at hj
    subst hj
    rcases HA5.out with e | e
    · exact .inl e
    · exact .inr (by omega)
  have hg5p : g5 ≠ p := fun e => by
    rcases hown p (by simp [Value.ownBlock, e]) with e | e
    · exact D2 e
    · omega
  have hfr45 : Fr (fun j => j = p ∨ fv.ownBlock = some j) w4 (w5.setCell ⟨p, 3, none⟩ (.slice (some ⟨g5, 0, none⟩) (A.F.length + 1) k5)) :=
    (((Fr.refl _ _).alloc _).grown HG5.out (fun j hj _ => .inr hj)).setCell _ _ (fun _ => .inl rfl)
  have hp5 := K5.out.hp
  rw [← HB5.out] at hp5
  have hnew := K5.out.newf (A.F ++ [i]) hfr45 (fv' := .slice (some ⟨g5, 0, none⟩) (A.F.length + 1) k5) (by rw [heap_setCell_same _ _ _ _ _ _ hp5]; rfl)
    (by
      have e1 : rowF (A.F ++ [i]) = rowF A.F ++ [.int .i64 i] := by simp [rowF]
      rw [List.length_append, e1]
      exact ownsRow_setCell_other HO5.out (by simp [Value.ownBlock]; exact hg5p) _) hown
  have hfr : Fr S w (w5.setCell ⟨p, 3, none⟩ (.slice (some ⟨g5, 0, none⟩) (A.F.length + 1) k5)) := F4.out.trans hfr45 (fun j hj _ => by
    rcases hj with rfl | hj
    · exact h3
    · exact H5.out j hj)
  have hdo := HO.out
  rw [HD.out] at hdo ⊢
  refine ⟨_, rfl, ⟨_, _, _, hnew, hdo, .inl h3, fun j hj => .inl (H4.out j hj), fun j hj => ?_, fun j hj => ?_⟩, hfr⟩
  · rcases hown j hj with e | e
    · exact .inl (H5.out j e)
    · exact .inr ⟨by omega, (hnew.hf.lt j hj).2⟩
  · rcases hj with hj | hj
    · exact Nat.lt_of_lt_of_le (H6.out j hj) hfr.size
    · exact hj.2

end Go.Proofs.Ytmkajdfajcodjaa

namespace Go.Proofs.Ytmkajdfajcodjaa
open Go Go.ChangeShapes Go.WideShapes Go.ChangeAt Go.RowKit

/-- The handles of what is taken, from a place on. -/
def allF : Nat → List Spot → List Int
  | _, [] => []
  | k, s :: L => if s.t then hand k s.g :: allF (k + 1) L else allF (k + 1) L
theorem allF_snoc (k : Nat) (M : List Spot) (s : Spot) : allF k (M ++ [s]) = allF k M ++ (if s.t then [hand (k + M.length) s.g] else []) := by
  induction M generalizing k with
  | nil => simp [allF]
  | cons a M ih =>
    simp only [List.cons_append, allF, ih (k + 1), List.length_cons]
    have e : k + 1 + M.length = k + (M.length + 1) := by omega
    rw [e]
    cases a.t <;> simp
theorem allF_len (k : Nat) (M : List Spot) : (allF k M).length = cnt M := by
  induction M generalizing k with
  | nil => rfl
  | cons a M ih =>
    simp only [allF, cnt, List.filter_cons]
    have := ih (k + 1)
    simp only [cnt] at this
    cases a.t <;> simp [this]
theorem infoRU : (Try.prog.info? 34).map (fun i => (i.zero, i.size, i.bytes)) = some (some (.int .u64 0), 1, 8) := by kernel_rfl
/-- All: the handles of what is taken, in a row of its own. -/
def RAllPost (w : World) (A : Ar) (e : Ending) (w' : World) : Prop :=
  ∃ v, e = .returned v ∧ w'.ownsRow w.heap.size 34 1 v (allF 0 A.L).length ((allF 0 A.L).map (Value.int .u64)) ∧ Below w.heap.size w w'
def RAllInv (w0 : World) (A : Ar) (q : Nat) (v : Value) (w : World) : Prop := w.ownsRow w0.heap.size 34 1 v (allF 0 (A.L.take q)).length ((allF 0 (A.L.take q)).map (Value.int .u64)) ∧ Below w0.heap.size w0 w
set_option maxHeartbeats 1000000 in
set_option maxRecDepth 100000 in
theorem RAll_any (S : Nat → Prop) (w : World) (p : Nat) (A : Ar) (h : RInS S w p A) : Calls Try.prog 21 #[.pointer (some ⟨p, 0, none⟩)] w (RAllPost w A) := by
  obtain ⟨cv, fv, R, h1, h2, h3, h4, h5, h6⟩ := h
  obtain ⟨a, k, hcv⟩ := h1.shape
  have hRl : R.length ≤ 65536 := by have := h1.len; have := h2.len; have := h2.m2; omega
  have hlen := h1.len
  obtain ⟨i0, hi, hz0, hz1, hz2⟩ := info_parts infoRU
  have hi' := hid hi
  have hz0' := hid hz0
  have hz1' := hid hz1
  have hz2' := hid hz2
  obtain ⟨n, hn⟩ : ∃ n, n = R.length := ⟨_, rfl⟩
  have hplt := h1.lt
  have hcvb : ∀ q, cv.ownBlock = some q → q < w.heap.size := fun q hq => (h1.hc.lt q hq).2
  rw [← hn] at hcv hRl hlen
  have HN := hid hn
  have HW := hid h1
  have HA := hid h2
  have HCV := hid hcv
  have HLN := hid hlen
  have HCB := hid hcvb
  clear hi hz0 hz1 hz2 hn hcv h1 h2 h3 h4 h5 h6 hlen hcvb
  go_enter Try.func21, Try.ntmps21
  go_wp2
  go_loopw [3, 4] (fun v i wr => ∃ q : Nat, q ≤ n ∧ i = .int .i64 q ∧ RAllInv w A q v wr) (fun _ i _ => n - (intOf i).toNat)
  case atStart => exact ⟨0, by omega, rfl, World.ownsRow_nil _ _ _ _, Below.refl _ _⟩
  case round =>
    obtain ⟨q, hq1, rfl, hrow, hB⟩ := hrel
    have c2 : wr.cell? ⟨p, 2, none⟩ = some (.slice a n k) := by rw [hB.cell (p := ⟨p, 2, none⟩) hplt, HW.out.c2, HCV.out]
    have HRW := hid hrow
    have HBB := hid hB
    by_cases hql : q < n
    · have hqR : q < R.length := by rw [← HN.out]; exact hql
      have hr : R[q]? = some R[q] := List.getElem?_eq_getElem hqR
      generalize R[q] = r at hr
      obtain ⟨g, k', hcv2⟩ := HW.out.form hr
      have hgb : g < w.heap.size := HCB.out g (by rw [hcv2]; rfl)
      have g1 := HW.out.at hr hcv2 1 (by omega)
      have g2 := HW.out.at hr hcv2 2 (by omega)
      rw [← hB.cell (p := ⟨g, q * 3 + 1, none⟩) hgb] at g1
      rw [← hB.cell (p := ⟨g, q * 3 + 2, none⟩) hgb] at g2
      rw [HCV.out, ← HN.out] at hcv2
      simp only [Value.slice.injEq] at hcv2
      obtain ⟨rfl, -, rfl⟩ := hcv2
      have hs : A.L[q]? = some (toSpot r) := by rw [HW.out.hR]; simp [hr]
      have hgen := (HA.out.gen q _ hs).2
      have hql2 : q < A.L.length := (List.getElem?_eq_some_iff.1 hs).1
      have htk : allF 0 (A.L.take (q + 1)) = allF 0 (A.L.take q) ++ (if (toSpot r).t then [hand q (toSpot r).g] else []) := by
        rw [List.take_succ_eq_append_getElem hql2, allF_snoc]
        have e1 : A.L[q] = toSpot r := by
          have := List.getElem?_eq_getElem hql2
          rw [hs] at this; exact (Option.some.inj this).symm
        have e2 : 0 + (A.L.take q).length = q := by simp; omega
        rw [e1, e2]
      have hal : (allF 0 (A.L.take q)).length ≤ 65536 := by
        rw [allF_len]
        have := cnt_le (A.L.take q)
        have : (A.L.take q).length ≤ q := List.length_take_le _ _
        omega
      obtain ⟨rx, rg, rs⟩ := r
      simp only [RSpot.cells, List.getElem?_cons_succ, List.getElem?_cons_zero] at g1 g2
      simp only [toSpot] at hgen htk
      have hgb2 : rg ≤ 4294967295 := hgen
      have HT := hid htk
      clear hs hr hqR hgen htk hql2 hrow hB
      have hh := fun W => Handle_any q rg W (by omega) hgb2
      by_cases hst : rs = 1
      · subst hst
        obtain ⟨hv, hhv⟩ : ∃ hv, hv = hand q rg := ⟨_, rfl⟩
        rw [← hhv] at hh
        have HV := hid hhv
        have HH := hid hh
        clear hh hhv
        obtain ⟨n3, hn3⟩ : ∃ n3, n3 = (allF 0 (A.L.take q)).length := ⟨_, rfl⟩
        have HR3 := HRW.out
        rw [← hn3] at HR3 hal
        have HR4 := hid HR3
        have HN3 := hid hn3
        obtain ⟨a3, k3, hv3⟩ : ∃ a k, u3 = .slice a n3 k := by
          rcases HR3.2 with ⟨e1, e2⟩ | ⟨g, cap, _, e1, _⟩
          · exact ⟨none, 0, by rw [e1, e2]⟩
          · exact ⟨_, cap, e1⟩
        subst hv3
        clear HR3 hn3
        go_wp2_with (first | (go_at_call 47; refine (HH.out _).mono ?_; rintro e w' ⟨rfl, rfl⟩) | (at_builtin; refine wpList_append_lies _ (o := ⟨some 35, _, _, _, _, _⟩) rfl (.tmp 23) (.tmp 34) 43 rfl w.heap.size 34 i0 (.int .u64 0) 1 8 Try.underlying43 hi'.out hz0'.out hz1'.out hz2'.out rfl (by decide) (.slice a3 n3 k3) n3 _ rfl (HR4.out.alloc _) ⟨wr.heap.size, 0, none⟩ 1 1 [.int .u64 hv] rfl rfl (one_news _ _ _ _ rfl) (by simp [Value.oneCell']) (by decide) (by unfold maxLen; omega) (by omega) (by have := HBB.out.size; simp; omega) (wr.heap.size + 1) (by simp) ?_; intro g5 k5 w5 hown5 hgrow5 hat5 hlt5; have HO5 := hid hown5; have HG5 := hid hgrow5; clear hown5 hgrow5 hat5))
        have hsz := HBB.out.size
        go_roundw
        case rel =>
          refine ⟨q + 1, by omega, by go_num, ?_, (HBB.out.alloc hsz _).grown HG5.out (by simp; omega) (fun j hj => (HR4.out.lt j hj).1)⟩
          rw [HT.out]
          simp only [decide_true, if_true, List.length_append, List.length_singleton, List.map_append, List.map_cons, List.map_nil]
          rw [← HN3.out, ← HV.out]
          exact HO5.out
        case measure => simp [intOf]; omega
      · have hb : (rs == 1) = false := by simpa using hst
        have HT2 : allF 0 (A.L.take (q + 1)) = allF 0 (A.L.take q) := by
          have h9 := HT.out
          simpa [toSpot, hst] using h9
        have HT3 := hid HT2
        clear hst hh HT HT2
        go_wp2
        go_roundw
        case rel => exact ⟨q + 1, by omega, by go_num, by rw [HT3.out]; exact HRW.out, HBB.out⟩
        case measure => simp [intOf]; omega
    · obtain rfl : q = n := by omega
      have ht : A.L.take q = A.L := List.take_of_length_le (by rw [HLN.out]; exact Nat.le_refl _)
      have HT := hid ht
      clear ht hrow hB
      go_wp2
      go_ret
      have := HRW.out
      rw [HT.out] at this
      exact ⟨_, rfl, this, HBB.out⟩
end Go.Proofs.Ytmkajdfajcodjaa

namespace Go.Proofs.Ytmkajdfajcodjaa
open Go Go.ChangeShapes Go.WideShapes Go.ChangeAt Go.RowKit

abbrev TOp : TypeId := 98
/-- An object of the plain twin: its block, its links, its inners. -/
structure RoC (w : World) (F : Nat → Lab) (b : Nat) (sv iv : Value) (o : Ob) : Prop where
  hb : w.heap[b]? = some (.cells #[.int .u64 o.h, .int .u64 o.outer, .int .u32 o.count, .int .i64 o.value, sv, iv] 101 (0, 0))
  hs : w.ownsRow 0 67 2 sv o.links.length (lkv o.links)
  hi : w.ownsRow 0 TU 1 iv o.inners.length (o.inners.map u64v)
  fb : F b = (o.h, 0)
  fs : ∀ k, sv.ownBlock = some k → F k = (o.h, 1)
  fi : ∀ k, iv.ownBlock = some k → F k = (o.h, 2)
section
variable {w w' : World} {F F' : Nat → Lab} {b : Nat} {sv iv : Value} {o : Ob} {fp : Nat → Prop}
theorem RoC.c0 (h : RoC w F b sv iv o) : w.cell? ⟨b, 0, none⟩ = some (.int .u64 o.h) := by rw [cell_of_row w b 0 _ _ _ h.hb]; rfl
theorem RoC.c1 (h : RoC w F b sv iv o) : w.cell? ⟨b, 1, none⟩ = some (.int .u64 o.outer) := by rw [cell_of_row w b 1 _ _ _ h.hb]; rfl
theorem RoC.c2 (h : RoC w F b sv iv o) : w.cell? ⟨b, 2, none⟩ = some (.int .u32 o.count) := by rw [cell_of_row w b 2 _ _ _ h.hb]; rfl
theorem RoC.c3 (h : RoC w F b sv iv o) : w.cell? ⟨b, 3, none⟩ = some (.int .i64 o.value) := by rw [cell_of_row w b 3 _ _ _ h.hb]; rfl
theorem RoC.c4 (h : RoC w F b sv iv o) : w.cell? ⟨b, 4, none⟩ = some sv := by rw [cell_of_row w b 4 _ _ _ h.hb]; rfl
theorem RoC.c5 (h : RoC w F b sv iv o) : w.cell? ⟨b, 5, none⟩ = some iv := by rw [cell_of_row w b 5 _ _ _ h.hb]; rfl
theorem RoC.fz (h : RoC w F b sv iv o) (k : Nat) : w.frozen? ⟨b, k, none⟩ = false := frozen_of_row w b k _ _ h.hb
theorem RoC.lt (h : RoC w F b sv iv o) : b < w.heap.size := (Array.getElem?_eq_some_iff.1 h.hb).1
theorem RoC.fr (h : RoC w F b sv iv o) (hf : Fr fp w w') (hd : ∀ k j, F k = (o.h, j) → ¬ fp k) (hF : ∀ k, k < w.heap.size → F' k = F k) : RoC w' F' b sv iv o :=
  ⟨by rw [hf.block b h.lt (hd b 0 h.fb)]; exact h.hb, hf.owns h.hs (fun k hk => hd k 1 (h.fs k hk)), hf.owns h.hi (fun k hk => hd k 2 (h.fi k hk)),
    by rw [hF b h.lt]; exact h.fb, fun k hk => by rw [hF k (h.hs.lt k hk).2]; exact h.fs k hk, fun k hk => by rw [hF k (h.hi.lt k hk).2]; exact h.fi k hk⟩
end
def RoW (w : World) (F : Nat → Lab) (b : Nat) (o : Ob) : Prop := ∃ sv iv, RoC w F b sv iv o
theorem RoW.fr {w w' : World} {F F' : Nat → Lab} {b : Nat} {o : Ob} {fp : Nat → Prop} (h : RoW w F b o) (hf : Fr fp w w') (hd : ∀ k j, F k = (o.h, j) → ¬ fp k) (hF : ∀ k, k < w.heap.size → F' k = F k) : RoW w' F' b o := by
  obtain ⟨sv, iv, h⟩ := h
  exact ⟨sv, iv, h.fr hf hd hF⟩
def opv (B : Int → Nat) (L : HL) : List Value := L.map fun o => .pointer (some ⟨B o.h, 0, none⟩)
theorem opv_at {B : Int → Nat} {L : HL} {i : Nat} {o : Ob} (h : L[i]? = some o) : (opv B L)[i]? = some (.pointer (some ⟨B o.h, 0, none⟩)) := by
  unfold opv
  rw [List.getElem?_map, h]
  rfl
/-- The plain twin in memory. -/
structure RhW (w : World) (p pa : Nat) (Sa : Nat → Prop) (A : Ar) (F : Nat → Lab) (B : Int → Nat) (top : Int) (L : HL) (lv : Value) : Prop where
  hp : w.heap[p]? = some (.cells #[.int .u32 top, .pointer (some ⟨pa, 0, none⟩), lv] 53 (0, 0))
  ar : RInS Sa w pa A
  fa : ∀ k, Sa k → F k = (0, 0)
  fp : F p = (-1, 0)
  lr : w.ownsRow 0 TOp 1 lv L.length (opv B L)
  fl : ∀ k, lv.ownBlock = some k → F k = (-3, 0)
  ob : ∀ o ∈ L, RoW w F (B o.h) o
section
variable {w w' : World} {p pa : Nat} {Sa : Nat → Prop} {A : Ar} {F F' : Nat → Lab} {B : Int → Nat} {top : Int} {L : HL} {lv : Value} {fp : Nat → Prop}
theorem RhW.c0 (h : RhW w p pa Sa A F B top L lv) : w.cell? ⟨p, 0, none⟩ = some (.int .u32 top) := by rw [cell_of_row w p 0 _ _ _ h.hp]; rfl
theorem RhW.c1 (h : RhW w p pa Sa A F B top L lv) : w.cell? ⟨p, 1, none⟩ = some (.pointer (some ⟨pa, 0, none⟩)) := by rw [cell_of_row w p 1 _ _ _ h.hp]; rfl
theorem RhW.c2 (h : RhW w p pa Sa A F B top L lv) : w.cell? ⟨p, 2, none⟩ = some lv := by rw [cell_of_row w p 2 _ _ _ h.hp]; rfl
theorem RhW.fz (h : RhW w p pa Sa A F B top L lv) (k : Nat) : w.frozen? ⟨p, k, none⟩ = false := frozen_of_row w p k _ _ h.hp
theorem RhW.lt (h : RhW w p pa Sa A F B top L lv) : p < w.heap.size := (Array.getElem?_eq_some_iff.1 h.hp).1
theorem RhW.fr (h : RhW w p pa Sa A F B top L lv) (hf : Fr fp w w') (h1 : ¬ fp p) (h2 : ∀ k, F k = (0, 0) → ¬ fp k) (h3 : ∀ k, F k = (-3, 0) → ¬ fp k) (h4 : ∀ o ∈ L, ∀ k j, F k = (o.h, j) → ¬ fp k) (hF : ∀ k, k < w.heap.size → F' k = F k) : RhW w' p pa Sa A F' B top L lv :=
  ⟨by rw [hf.block p h.lt h1]; exact h.hp, h.ar.fr hf (fun k hk => h2 k (h.fa k hk)), fun k hk => by rw [hF k (h.ar.lt k hk)]; exact h.fa k hk, by rw [hF p h.lt]; exact h.fp,
    hf.owns h.lr (fun k hk => h3 k (h.fl k hk)), fun k hk => by rw [hF k (h.lr.lt k hk).2]; exact h.fl k hk, fun o ho => (h.ob o ho).fr hf (h4 o ho) hF⟩
theorem RhW.relab (h : RhW w p pa Sa A F B top L lv) (hF : ∀ k, k < w.heap.size → F' k = F k) : RhW w p pa Sa A F' B top L lv :=
  h.fr (fp := fun _ => False) (Fr.refl _ _) (fun e => e) (fun _ _ e => e) (fun _ _ e => e) (fun _ _ _ _ _ e => e) hF
theorem RhW.drewN (h : RhW w p pa Sa A F B top L lv) (n : Nat) : RhW (w.drewN n) p pa Sa A F B top L lv :=
  h.fr (fp := fun _ => False) ((Fr.refl _ _).drewN n) (fun e => e) (fun _ _ e => e) (fun _ _ e => e) (fun _ _ _ _ _ e => e) (fun _ _ => rfl)
theorem RhW.shape (h : RhW w p pa Sa A F B top L lv) : ∃ a k, lv = .slice a L.length k := by
  rcases h.lr.2 with ⟨h1, h2⟩ | ⟨g, cap, _, h1, _⟩
  · exact ⟨none, 0, by rw [h1, h2]⟩
  · exact ⟨_, cap, h1⟩
theorem RhW.at (h : RhW w p pa Sa A F B top L lv) {i : Nat} {o : Ob} (ho : L[i]? = some o) {a : Option Addr} {k : Nat} (hv : lv = .slice a L.length k) : ∃ g, a = some ⟨g, 0, none⟩ ∧ w.cell? ⟨g, i, none⟩ = some (.pointer (some ⟨B o.h, 0, none⟩)) := by
  have hlt : i < L.length := (List.getElem?_eq_some_iff.1 ho).1
  have hl := h.lr
  obtain ⟨g, k', h1, _⟩ := hl.form (by omega)
  rw [h1] at hv
  cases hv
  rw [h1] at hl
  exact ⟨g, rfl, by rw [hl.cellAt i (by omega)]; exact opv_at ho⟩
/-- One object has turned. -/
theorem RhW.one (h : RhW w p pa Sa A F B top L lv) (hn : Nd L) {o0 : Ob} (ho : o0 ∈ L) (hz : 1 ≤ o0.h) (f : Ob → Ob) (hf : ∀ o, (f o).h = o.h) (hfr : Fr fp w w') (hfp : ∀ k, fp k → ∃ j, F k = (o0.h, j)) (hF : ∀ k, k < w.heap.size → F' k = F k) (hob : RoW w' F' (B o0.h) (f o0)) :
    RhW w' p pa Sa A F' B top (L.map fun o => if o.h = o0.h then f o else o) lv := by
  have nofp : ∀ k l j, F k = (l, j) → l ≠ o0.h → ¬ fp k := fun k l j e hl hk => by
    obtain ⟨j', e'⟩ := hfp k hk
    rw [e] at e'
    exact hl (congrArg Prod.fst e')
  have hov : opv B (L.map fun o => if o.h = o0.h then f o else o) = opv B L := by
    unfold opv
    rw [List.map_map]
    refine List.map_congr_left fun o _ => ?_
    simp only [Function.comp]
    split
    · rw [hf]
    · rfl
  refine ⟨by rw [hfr.block p h.lt (nofp p _ _ h.fp (by omega))]; exact h.hp, h.ar.fr hfr (fun k hk => nofp k _ _ (h.fa k hk) (by omega)), fun k hk => by rw [hF k (h.ar.lt k hk)]; exact h.fa k hk, by rw [hF p h.lt]; exact h.fp, ?_, fun k hk => by rw [hF k (h.lr.lt k hk).2]; exact h.fl k hk, ?_⟩
  · rw [hov, List.length_map]
    exact hfr.owns h.lr (fun k hk => nofp k _ _ (h.fl k hk) (by omega))
  · intro o hm
    obtain ⟨q, hq, rfl⟩ := List.mem_map.1 hm
    by_cases e : q.h = o0.h
    · have : q = o0 := ob_eq hn ho hq e
      subst this
      rw [if_pos rfl, hf]
      exact hob
    · rw [if_neg e]
      exact (h.ob q hq).fr hfr (fun k j e2 => nofp k _ j e2 e) hF
theorem RhW.setc (h : RhW w p pa Sa A F B top L lv) (hn : Nd L) {o : Ob} (ho : o ∈ L) (hz : 1 ≤ o.h) (c : Int) : RhW (w.setCell ⟨B o.h, 2, none⟩ (.int .u32 c)) p pa Sa A F B top (setc L o.h c) lv := by
  obtain ⟨sv, iv, hb⟩ := h.ob o ho
  have hsv : sv.ownBlock ≠ some (B o.h) := fun e => by have := hb.fs _ e; rw [hb.fb] at this; cases this
  have hiv : iv.ownBlock ≠ some (B o.h) := fun e => by have := hb.fi _ e; rw [hb.fb] at this; cases this
  refine h.one hn ho hz (fun q => { q with count := c }) (fun _ => rfl) ((Fr.refl (fun k => k = B o.h) w).setCell _ _ (fun _ => rfl)) (fun k e => ⟨0, by rw [e]; exact hb.fb⟩) (fun _ _ => rfl) ⟨sv, iv, ?_⟩
  exact ⟨by rw [heap_setCell_same _ _ _ _ _ _ hb.hb]; rfl, ownsRow_setCell_other hb.hs hsv _, ownsRow_setCell_other hb.hi hiv _, hb.fb, hb.fs, hb.fi⟩
theorem RhW.setv (h : RhW w p pa Sa A F B top L lv) (hn : Nd L) {o : Ob} (ho : o ∈ L) (hz : 1 ≤ o.h) (c : Int) : RhW (w.setCell ⟨B o.h, 3, none⟩ (.int .i64 c)) p pa Sa A F B top (setv L o.h c) lv := by
  obtain ⟨sv, iv, hb⟩ := h.ob o ho
  have hsv : sv.ownBlock ≠ some (B o.h) := fun e => by have := hb.fs _ e; rw [hb.fb] at this; cases this
  have hiv : iv.ownBlock ≠ some (B o.h) := fun e => by have := hb.fi _ e; rw [hb.fb] at this; cases this
  refine h.one hn ho hz (fun q => { q with value := c }) (fun _ => rfl) ((Fr.refl (fun k => k = B o.h) w).setCell _ _ (fun _ => rfl)) (fun k e => ⟨0, by rw [e]; exact hb.fb⟩) (fun _ _ => rfl) ⟨sv, iv, ?_⟩
  exact ⟨by rw [heap_setCell_same _ _ _ _ _ _ hb.hb]; rfl, ownsRow_setCell_other hb.hs hsv _, ownsRow_setCell_other hb.hi hiv _, hb.fb, hb.fs, hb.fi⟩
def RFindP (B : Int → Nat) (L : HL) (hd : Int) (w : World) (e : Ending) (w' : World) : Prop := w = w' ∧ ((∃ o, fnd L hd = some o ∧ e = .returned (.pointer (some ⟨B hd, 0, none⟩))) ∨ (fnd L hd = none ∧ e = .returned (.pointer none)))
/-- Find. -/
theorem RFind_any (h : RhW w p pa Sa A F B top L lv) (hl : L.length ≤ 1000000) (hd : Int) :
    Calls Try.prog 43 #[.pointer (some ⟨p, 0, none⟩), .int .u64 hd] w (RFindP B L hd w) := by
  obtain ⟨a, k, hv⟩ := h.shape
  have c2 := h.c2
  rw [hv] at c2
  have HH := hid h
  have HV := hid hv
  clear h hv
  obtain ⟨n, hn⟩ : ∃ n, n = L.length := ⟨_, rfl⟩
  rw [← hn] at c2 hl
  have HN := hid hn
  clear hn
  go_enter Try.func43, Try.ntmps43
  go_wp2
  go_loop [5] (fun i => ∃ q : Nat, q ≤ n ∧ i = .int .i64 q ∧ RowKit.Hid (∀ j o, j < q → L[j]? = some o → o.h ≠ hd)) (fun i => n - (intOf i).toNat)
  case atStart => exact ⟨0, by omega, rfl, hid (fun j o h => by omega)⟩
  case round =>
    obtain ⟨q, hq1, rfl, hno⟩ := hrel
    by_cases hql : q < n
    · have hqL : q < L.length := by rw [← HN.out]; exact hql
      have hr : L[q]? = some L[q] := List.getElem?_eq_getElem hqL
      generalize L[q] = o at hr
      obtain ⟨g, rfl, cg⟩ := HH.out.at hr HV.out
      obtain ⟨sv, iv, hb⟩ := HH.out.ob o (List.mem_of_getElem? hr)
      have co := hb.c0
      have HR := hid hr
      clear hr hb hqL
      obtain ⟨b, hbb⟩ : ∃ b, b = B o.h := ⟨_, rfl⟩
      rw [← hbb] at cg co
      have HBB := hid hbb.symm
      clear hbb
      obtain ⟨u, hu⟩ : ∃ u, u = o.h := ⟨_, rfl⟩
      rw [← hu] at co
      have HU := hid hu
      clear hu
      by_cases he : u = hd
      · have hbq : (u == hd) = true := by simpa using he
        have HE := hid he
        clear he
        go_wp2
        go_ret
        refine ⟨rfl, .inl ?_⟩
        have hm := List.mem_of_getElem? HR.out
        have hoh : o.h = hd := by rw [← HU.out]; exact HE.out
        cases hf : fnd L hd with
        | none => exact absurd hoh (fnd_none.1 hf o hm)
        | some o' => exact ⟨o', rfl, by rw [← HBB.out, hoh]; rfl⟩
      · have hbq : (u == hd) = false := by simpa using he
        have HE := hid he
        clear he
        go_wp2
        go_round
        case rel => exact ⟨q + 1, by omega, by go_num, hid (fun j o' hj ho' => by
          by_cases e : j < q
          · exact hno.out j o' e ho'
          · obtain rfl : j = q := by omega
            rw [HR.out] at ho'
            cases ho'
            rw [← HU.out]
            exact HE.out)⟩
        case measure => simp [intOf]; omega
    · go_wp2
      go_ret
      have hf : fnd L hd = none := fnd_none.2 fun o ho => by
        obtain ⟨j, hj, rfl⟩ := List.getElem_of_mem ho
        exact hno.out j _ (by have := HN.out; omega) (List.getElem?_eq_getElem hj)
      exact ⟨rfl, .inr ⟨hf, rfl⟩⟩
theorem RFind_some (h : RhW w p pa Sa A F B top L lv) (hl : L.length ≤ 1000000) {hd : Int} {o : Ob} (e : fnd L hd = some o) :
    Calls Try.prog 43 #[.pointer (some ⟨p, 0, none⟩), .int .u64 hd] w fun e w' => e = .returned (.pointer (some ⟨B hd, 0, none⟩)) ∧ w = w' :=
  (RFind_any h hl hd).mono (by
    rintro e1 w1 ⟨rfl, ⟨o', h1, rfl⟩ | ⟨h1, rfl⟩⟩
    · exact ⟨rfl, rfl⟩
    · rw [e] at h1; cases h1)
theorem RFind_none (h : RhW w p pa Sa A F B top L lv) (hl : L.length ≤ 1000000) {hd : Int} (e : fnd L hd = none) :
    Calls Try.prog 43 #[.pointer (some ⟨p, 0, none⟩), .int .u64 hd] w fun e w' => e = .returned (.pointer none) ∧ w = w' :=
  (RFind_any h hl hd).mono (by
    rintro e1 w1 ⟨rfl, ⟨o', h1, rfl⟩ | ⟨h1, rfl⟩⟩
    · rw [e] at h1; cases h1
    · exact ⟨rfl, rfl⟩)
/-- Whole. -/
theorem RWhole_some (h : RhW w p pa Sa A F B top L lv) (hl : L.length ≤ 1000000) (hi : HIn top L) {hd : Int} {x : Ob} (e : whl L hd = some x) :
    Calls Try.prog 44 #[.pointer (some ⟨p, 0, none⟩), .int .u64 hd] w fun e w' => e = .returned (.pointer (some ⟨B x.h, 0, none⟩)) ∧ w = w' := by
  obtain ⟨o, hf⟩ : ∃ o, fnd L hd = some o := by
    cases hf : fnd L hd with
    | none => rw [(whl_none hi).2 hf] at e; cases e
    | some o => exact ⟨o, rfl⟩
  obtain ⟨h1, h2⟩ := fnd_some hf
  obtain ⟨sv, iv, hb⟩ := h.ob o h1
  have hc2 := hb.c1
  have hF := RFind_some h hl hf
  rw [h2] at hc2
  rcases whl_cases hi hf with ⟨h0, h3⟩ | ⟨h0, y, hy, h4, h5, _, h3⟩
  · rw [e] at h3
    cases h3
    rw [h0] at hc2
    rw [h2]
    have HF := hid hF
    clear h hi e hf h1 h2 hb hF h0
    go_enter Try.func44, Try.ntmps44
    go_wp2_with (refine HF.out.mono ?_; rintro e w1 ⟨rfl, rfl⟩)
    go_ret
    exact ⟨rfl, rfl⟩
  · rw [e] at h3
    cases h3
    have hG := RFind_some h hl (fnd_mem hi.nd hy)
    rw [h4] at hG ⊢
    have hz : (o.outer == 0) = false := by simpa using h0
    have HF := hid hF
    have HG := hid hG
    generalize o.outer = u at *
    clear h hi e hf h1 h2 hb hF hG h0 h4
    go_enter Try.func44, Try.ntmps44
    go_wp2_with fail
    refine HF.out.mono ?_
    rintro e w1 ⟨rfl, rfl⟩
    go_wp2_with (refine HG.out.mono ?_; rintro e w1 ⟨rfl, rfl⟩)
    go_ret
    exact ⟨rfl, rfl⟩
theorem RWhole_none (h : RhW w p pa Sa A F B top L lv) (hl : L.length ≤ 1000000) {hd : Int} (e : fnd L hd = none) :
    Calls Try.prog 44 #[.pointer (some ⟨p, 0, none⟩), .int .u64 hd] w fun e w' => e = .returned (.pointer none) ∧ w = w' := by
  have HF := hid (RFind_none h hl e)
  clear h hl e
  go_enter Try.func44, Try.ntmps44
  go_wp2_with (refine HF.out.mono ?_; rintro e w1 ⟨rfl, rfl⟩)
  go_ret
  exact ⟨rfl, rfl⟩
/-- Up. -/
theorem RUp_none (h : RhW w p pa Sa A F B top L lv) (hl : L.length ≤ 1000000) {hd : Int} (e : fnd L hd = none) :
    Calls Try.prog 38 #[.pointer (some ⟨p, 0, none⟩), .int .u64 hd] w fun e w' => e = .returned (.tuple #[.int .u32 0, .int .i64 2]) ∧ w = w' := by
  have HF := hid (RWhole_none h hl e)
  clear h hl e
  go_enter Try.func38, Try.ntmps38
  go_wp2_with (refine HF.out.mono ?_; rintro e w1 ⟨rfl, rfl⟩)
  go_ret2
  exact ⟨rfl, rfl⟩
theorem RUp_top (h : RhW w p pa Sa A F B top L lv) (hl : L.length ≤ 1000000) (hi : HIn top L) {hd : Int} {x : Ob} (e : whl L hd = some x) (ht : x.count = top) :
    Calls Try.prog 38 #[.pointer (some ⟨p, 0, none⟩), .int .u64 hd] w fun e w' => e = .returned (.tuple #[.int .u32 0, .int .i64 4]) ∧ Fr (fun _ => False) w w' := by
  have hF := RWhole_some h hl hi e
  obtain ⟨h1, h2⟩ := whl_some hi e
  obtain ⟨sv, iv, hb⟩ := h.ob x h1
  have hc4 := hb.c2
  rw [ht] at hc4
  have hc1 := h.c0
  have HF := hid hF
  clear h hi hF e h1 h2 hb ht hl
  go_enter Try.func38, Try.ntmps38
  go_wp2_with fail
  refine HF.out.mono ?_
  rintro e w1 ⟨rfl, rfl⟩
  go_wp2
  go_quiet (fail)
  go_wp2
  go_ret2
  exact ⟨rfl, (Fr.refl _ _).drewN _⟩
theorem RUp_ok (h : RhW w p pa Sa A F B top L lv) (hl : L.length ≤ 1000000) (hi : HIn top L) (htop : top ≤ 4294967295) {hd : Int} {x : Ob} (e : whl L hd = some x) (ht : x.count ≠ top) :
    Calls Try.prog 38 #[.pointer (some ⟨p, 0, none⟩), .int .u64 hd] w fun e w' => e = .returned (.tuple #[.int .u32 (x.count + 1), .int .i64 0]) ∧ RhW w' p pa Sa A F B top (Go.Proofs.Ytmkajdfajcodjaa.setc L x.h (x.count + 1)) lv ∧ Fr (fun k => F k = (x.h, 0)) w w' := by
  have hF := RWhole_some h hl hi e
  obtain ⟨h1, h2⟩ := whl_some hi e
  obtain ⟨sv, iv, hb⟩ := h.ob x h1
  have hc4 := hb.c2
  have hz4 := hb.fz 2
  have hfb := hb.fb
  have hz := (hi.nz x h1).1
  have hc1 := h.c0
  have hcb := hi.cnt x h1
  have hq : (x.count == top) = false := by simpa using ht
  have hwr : IntKind.u32.wrap (x.count + 1) = x.count + 1 := IntWalk.u32_in _ (by omega)
  have hpb : p ≠ B x.h := fun e => by have := h.fp; rw [e, hfb] at this; have := congrArg Prod.fst this; simp only at this; omega
  have HF := hid hF
  have HH := hid h
  have H1 := hid h1
  have HN := hid hi.nd
  have HFB := hid hfb
  have HZ := hid hz
  generalize x.count = n at *
  clear h hi hF e h1 h2 hb ht hcb htop hfb hl hz
  go_enter Try.func38, Try.ntmps38
  go_wp2_with fail
  refine HF.out.mono ?_
  rintro e w1 ⟨rfl, rfl⟩
  go_wp2
  go_quiet (fail)
  go_wp2
  go_ret2
  refine ⟨rfl, (HH.out.drewN _).setc HN.out H1.out HZ.out _, ((Fr.refl _ _).drewN _).setCell _ _ (fun _ => HFB.out)⟩
end
end Go.Proofs.Ytmkajdfajcodjaa

namespace Go.Proofs.Ytmkajdfajcodjaa
open Go Go.ChangeShapes Go.WideShapes Go.ChangeAt Go.RowKit

theorem infoOp : (Try.prog.info? TOp).map (fun i => (i.zero, i.size, i.bytes)) = some (some (.pointer none), 1, 8) := by kernel_rfl
def rst (L : HL) (hd : Int) : HL := L.filter fun x => !(x.h == hd)
theorem rst_snoc (L : HL) (hd : Int) {q : Nat} {o : Ob} (h : L[q]? = some o) : rst (L.take (q + 1)) hd = rst (L.take q) hd ++ (if o.h = hd then [] else [o]) := by
  have hlt := (List.getElem?_eq_some_iff.1 h).1
  have he := (List.getElem?_eq_some_iff.1 h).2
  unfold rst
  rw [List.take_succ_eq_append_getElem hlt, List.filter_append, he]
  by_cases e : o.h = hd <;> simp [e]
/-- The new row of objects is a's; what comes later is the arena's. -/
def awF (F : Nat → Lab) (n m : Nat) : Nat → Lab := fun k => if k < n then F k else if k < m then (-3, 0) else (0, 0)
theorem awF_lt {F : Nat → Lab} {n m k : Nat} (h : k < n) : awF F n m k = F k := if_pos h
def AwP (w : World) (p pa : Nat) (A : Ar) (F : Nat → Lab) (B : Int → Nat) (top : Int) (L : HL) (hd : Int) (e : Ending) (w' : World) : Prop :=
  e = .returned (.pointer (some ⟨B hd, 0, none⟩)) ∧ ∃ i sp, Found A hd i sp ∧ ∃ Sa' F' lv', RhW w' p pa Sa' (dropAt A i sp) F' B top (rst L hd) lv' ∧ (∀ k, k < w.heap.size → F' k = F k) ∧ (∀ k, w.heap.size ≤ k → F' k = (-3, 0) ∨ F' k = (0, 0)) ∧ Fr (fun k => F k = (-1, 0) ∨ F k = (0, 0)) w w'
section
variable {w w' : World} {p pa : Nat} {Sa : Nat → Prop} {A : Ar} {F F' : Nat → Lab} {B : Int → Nat} {top : Int} {L : HL} {lv : Value} {fp : Nat → Prop}
theorem RAt_some (h : RInS Sa w pa A) {hd : Int} {i : Nat} {sp : Spot} (hf : Found A hd i sp) :
    Calls Try.prog 77 #[.pointer (some ⟨pa, 0, none⟩), .int .u64 hd] w fun e w' => e = .returned (.int .i64 i) ∧ w = w' := by
  obtain ⟨cv, fv, R, h1, h2, _⟩ := h
  refine (At_any w pa cv fv A R hd h1 h2).mono ?_
  rintro e w1 ⟨rfl, ⟨j, s, h3, rfl⟩ | ⟨h3, _⟩⟩
  · obtain ⟨rfl, _⟩ := Found.same h2 h3 hf
    exact ⟨rfl, rfl⟩
  · exact absurd hf (h3 i sp)
theorem RDrop_any (h : RInS Sa w pa A) {i : Nat} {s : Spot} (hs : A.L[i]? = some s) (ht : s.t = true) :
    Calls Try.prog 76 #[.pointer (some ⟨pa, 0, none⟩), .int .i64 i] w (RDropPost Sa w pa (dropAt A i s)) := by
  by_cases hw : s.g < 4294967295
  · exact RDrop_again Sa w pa A i s h hs ht hw
  · exact RDrop_worn Sa w pa A i s h hs ht hw
/-- Its row of objects is another one. -/
theorem RhW.row (h : RhW w p pa Sa A F B top L lv) (hz : ∀ o ∈ L, 1 ≤ o.h) {L' : HL} {lv' : Value} (hL : ∀ o ∈ L', o ∈ L) (hb : Below w.heap.size w w') (hr : w'.ownsRow w.heap.size TOp 1 lv' L'.length (opv B L')) :
    RhW (w'.setCell ⟨p, 2, none⟩ lv') p pa Sa A (nw F w.heap.size (-3, 0)) B top L' lv' := by
  have hl := h.lt
  have hlo : ∀ k, k < w.heap.size → nw F w.heap.size (-3, 0) k = F k := fun k hk => nw_lt hk
  have hfr : Fr (fun k => k = p) w (w'.setCell ⟨p, 2, none⟩ lv') := (Fr.of_below hb).setCell _ _ (fun _ => rfl)
  have nop : ∀ k l j, F k = (l, j) → l ≠ -1 → ¬ k = p := fun k l j e hne e2 => by
    rw [e2, h.fp] at e
    exact hne (congrArg Prod.fst e).symm
  have hp : w'.heap[p]? = some (.cells #[.int .u32 top, .pointer (some ⟨pa, 0, none⟩), lv] 53 (0, 0)) := by rw [hb.block _ hl]; exact h.hp
  have hlv : lv'.ownBlock ≠ some p := fun e => by have := (hr.lt _ e).1; omega
  refine ⟨by rw [heap_setCell_same _ _ _ _ _ _ hp]; rfl, h.ar.fr hfr (fun k hk => nop k _ _ (h.fa k hk) (by omega)), fun k hk => by rw [hlo k (h.ar.lt k hk)]; exact h.fa k hk, by rw [hlo p hl]; exact h.fp, ?_, ?_, ?_⟩
  · exact owns_low (ownsRow_setCell_other hr hlv _) (Nat.zero_le _)
  · intro k hk
    exact nw_ge (hr.lt k hk).1
  · intro o ho
    obtain ⟨sv, iv, hb2⟩ := h.ob o (hL o ho)
    have hnz : F (B o.h) = (o.h, 0) := hb2.fb
    refine (h.ob o (hL o ho)).fr hfr (fun k j e e2 => ?_) hlo
    rw [e2, h.fp] at e
    have := congrArg Prod.fst e
    have := hz o (hL o ho)
    simp only at *
    omega
/-- The arena has turned. -/
theorem RhW.arena (h : RhW w p pa Sa A F B top L lv) (hz : ∀ o ∈ L, 1 ≤ o.h) {Sa' : Nat → Prop} {A' : Ar} (ha : RInS Sa' w' pa A') (hf : Fr Sa w w') (hS : ∀ k, Sa' k → Sa k ∨ w.heap.size ≤ k) :
    RhW w' p pa Sa' A' (nw F w.heap.size (0, 0)) B top L lv := by
  have hlo : ∀ k, k < w.heap.size → nw F w.heap.size (0, 0) k = F k := fun k hk => nw_lt hk
  have nosa : ∀ k l j, F k = (l, j) → l ≠ 0 → ¬ Sa k := fun k l j e hl hk => by
    rw [h.fa k hk] at e
    exact hl (congrArg Prod.fst e).symm
  refine ⟨by rw [hf.block p h.lt (nosa p _ _ h.fp (by omega))]; exact h.hp, ha, fun k hk => ?_, by rw [hlo p h.lt]; exact h.fp, hf.owns h.lr (fun k hk => nosa k _ _ (h.fl k hk) (by omega)), fun k hk => by rw [hlo k (h.lr.lt k hk).2]; exact h.fl k hk, fun o ho => (h.ob o ho).fr hf (fun k j e => nosa k _ j e (by have := hz o ho; omega)) hlo⟩
  rcases hS k hk with e | e
  · rw [hlo k (h.ar.lt k e)]; exact h.fa k e
  · exact nw_ge e
set_option maxRecDepth 100000 in
set_option maxHeartbeats 4000000 in
theorem RAway_any (h : RhW w p pa Sa A F B top L lv) (hl : L.length ≤ 100000) (hz : ∀ o ∈ L, 1 ≤ o.h) {hd : Int} {o0 : Ob} (ho : fnd L hd = some o0) {i : Nat} {sp : Spot} (hf : Found A hd i sp) :
    Calls Try.prog 70 #[.pointer (some ⟨p, 0, none⟩), .int .u64 hd] w (AwP w p pa A F B top L hd) := by
  have hF := RFind_some h (by omega) ho
  obtain ⟨a, k, hv⟩ := h.shape
  obtain ⟨i0, hi, hz0, hz1, hz2⟩ := info_parts infoOp
  have hi' := hid hi
  have hz0' := hid hz0
  have hz1' := hid hz1
  have hz2' := hid hz2
  have HF := hid hF
  have HH := hid h
  have HV := hid hv
  have HZ := hid hz
  have HFO := hid hf
  have hplt := h.lt
  have c2 := h.c2
  rw [hv] at c2
  obtain ⟨n, hn⟩ : ∃ n, n = L.length := ⟨_, rfl⟩
  rw [← hn] at c2 hl
  have HN := hid hn
  clear hn hF h hv hz hf ho hi hz0 hz1 hz2
  go_enter Try.func70, Try.ntmps70
  go_wp2_with fail
  refine HF.out.mono ?_
  rintro e w1 ⟨rfl, rfl⟩
  clear HF
  go_wp2
  go_loopw [6, 7] (fun v i wr => ∃ q : Nat, q ≤ n ∧ i = .int .i64 q ∧ wr.ownsRow w.heap.size TOp 1 v (rst (L.take q) hd).length (opv B (rst (L.take q) hd)) ∧ Below w.heap.size w wr) (fun _ i _ => n - (intOf i).toNat)
  case atStart => exact ⟨0, by omega, rfl, World.ownsRow_nil _ _ _ _, Below.refl _ _⟩
  case round =>
    obtain ⟨q, hq1, rfl, hrow, hB⟩ := hrel
    have c2r : wr.cell? ⟨p, 2, none⟩ = some (.slice a n k) := by rw [hB.cell (p := ⟨p, 2, none⟩) hplt]; exact c2
    have HRW := hid hrow
    have HBB := hid hB
    by_cases hql : q < n
    · have hqL : q < L.length := by rw [← HN.out]; exact hql
      have hr : L[q]? = some L[q] := List.getElem?_eq_getElem hqL
      generalize L[q] = o at hr
      have hw := HH.out.fr (F' := F) (fp := fun _ => False) (Fr.of_below hB) (fun e => e) (fun _ _ e => e) (fun _ _ e => e) (fun _ _ _ _ _ e => e) (fun _ _ => rfl)
      obtain ⟨g, rfl, cg⟩ := hw.at hr HV.out
      obtain ⟨sv, iv, hb⟩ := hw.ob o (List.mem_of_getElem? hr)
      have co := hb.c0
      have htk := rst_snoc L hd hr
      have hal : (rst (L.take q) hd).length ≤ 100000 := by
        have := List.length_filter_le (fun x : Ob => !(x.h == hd)) (L.take q)
        have := List.length_take_le q L
        unfold rst
        omega
      obtain ⟨b, hbb⟩ : ∃ b, b = B o.h := ⟨_, rfl⟩
      rw [← hbb] at cg co
      have HBO := hid hbb.symm
      obtain ⟨u, hu⟩ : ∃ u, u = o.h := ⟨_, rfl⟩
      rw [← hu] at co
      have HU := hid hu
      have HT := hid htk
      clear hr hb hqL hw hbb hu htk hrow hB
      by_cases he : u = hd
      · have hbq : (u != hd) = false := by simpa using he
        have HE := hid he
        clear he
        go_wp2
        go_roundw
        case rel => exact ⟨q + 1, by omega, by go_num, by rw [HT.out, if_pos (by rw [← HU.out]; exact HE.out), List.append_nil]; exact HRW.out, HBB.out⟩
        case measure => simp [intOf]; omega
      · have hbq : (u != hd) = true := by simpa using he
        have HE := hid he
        clear he
        obtain ⟨n3, hn3⟩ : ∃ n3, n3 = (rst (L.take q) hd).length := ⟨_, rfl⟩
        have HR3 := HRW.out
        rw [← hn3] at HR3 hal
        have HR4 := hid HR3
        have HN3 := hid hn3
        obtain ⟨a3, k3, hv3⟩ : ∃ a k, u6 = .slice a n3 k := by
          rcases HR3.2 with ⟨e1, e2⟩ | ⟨g, cap, _, e1, _⟩
          · exact ⟨none, 0, by rw [e1, e2]⟩
          · exact ⟨_, cap, e1⟩
        subst hv3
        clear HR3 hn3
        go_wp2_with (at_builtin; refine wpList_append_lies _ (o := ⟨some 41, _, _, _, _, _⟩) rfl (.tmp 32) (.tmp 40) 51 rfl w.heap.size TOp i0 (.pointer none) 1 8 Try.underlying51 hi'.out hz0'.out hz1'.out hz2'.out rfl (by decide) (.slice a3 n3 k3) n3 _ rfl (HR4.out.alloc _) ⟨wr.heap.size, 0, none⟩ 1 1 [.pointer (some ⟨b, 0, none⟩)] rfl rfl (one_news _ _ _ _ rfl) (by simp [Value.oneCell']) (by decide) (by unfold maxLen; omega) (by omega) (by have := HBB.out.size; simp; omega) (wr.heap.size + 1) (by simp) ?_; intro g5 k5 w5 hown5 hgrow5 hat5 hlt5; have HO5 := hid hown5; have HG5 := hid hgrow5; clear hown5 hgrow5 hat5)
        have hsz := HBB.out.size
        go_roundw
        case rel =>
          refine ⟨q + 1, by omega, by go_num, ?_, (HBB.out.alloc hsz _).grown HG5.out (by simp; omega) (fun j hj => (HR4.out.lt j hj).1)⟩
          rw [HT.out, if_neg (by rw [← HU.out]; exact HE.out)]
          have eo : opv B (rst (L.take q) hd ++ [o]) = opv B (rst (L.take q) hd) ++ [.pointer (some ⟨b, 0, none⟩)] := by
            rw [← HBO.out]; simp [opv]
          rw [eo, List.length_append, List.length_singleton, ← HN3.out]
          exact HO5.out
        case measure => simp [intOf]; omega
    · obtain rfl : q = n := by omega
      have ht : L.take q = L := List.take_of_length_le (by rw [HN.out]; exact Nat.le_refl _)
      rw [ht] at hrow
      have hz3 := HH.out.fz 2
      have hfz : wr.frozen? ⟨p, 2, none⟩ = false := by rw [World.frozen?_of_block (hB.block p hplt)]; exact hz3
      obtain ⟨a3, k3, hv3⟩ : ∃ a k, u6 = .slice a (rst L hd).length k := by
        rcases hrow.2 with ⟨e1, e2⟩ | ⟨g, cap, _, e1, _⟩
        · exact ⟨none, 0, by rw [e1, e2]⟩
        · exact ⟨_, cap, e1⟩
      have hnew := HH.out.row HZ.out (L' := rst L hd) (lv' := u6) (fun o ho => (List.mem_filter.1 ho).1) hB hrow
      have hfr : Fr (fun k => F k = (-1, 0) ∨ F k = (0, 0)) w (wr.setCell ⟨p, 2, none⟩ u6) := (Fr.of_below hB).setCell _ _ (fun _ => .inl HH.out.fp)
      have HNW := hid hnew
      have HFR := hid hfr
      subst hv3
      generalize (rst L hd).length = nr at *
      clear HRW HBB hrow hnew hfr hz3 ht
      go_wp2
      obtain ⟨w4, hw4⟩ : ∃ w4, w4 = wr.setCell ⟨p, 2, none⟩ (.slice a3 nr k3) := ⟨_, rfl⟩
      rw [← hw4] at HNW HFR ⊢
      clear c2r hfz
      have hs4 : wr.heap.size = w4.heap.size := by rw [hw4]; simp
      clear hw4
      have c1 := HNW.out.c1
      refine C.wp_region_mix [0, 0, 0, 1, 0, 0, 0, 1, 0, 2, 2] (fun W => W.cell? ⟨p, 1, none⟩ = some (.pointer (some ⟨pa, 0, none⟩))) (by kernel_rfl) (by kernel_rfl) c1 ?_
      obtain ⟨w5, hw5⟩ : ∃ w5, w5 = w4.drew := ⟨_, rfl⟩
      rw [← hw5]
      have R5 := hid (show RhW w5 p pa Sa A (nw F w.heap.size (-3, 0)) B top (rst L hd) (.slice a3 nr k3) by rw [hw5]; exact HNW.out.drewN 1)
      have F5 := hid (show Fr (fun k => F k = (-1, 0) ∨ F k = (0, 0)) w w5 by rw [hw5]; exact HFR.out.drew)
      clear hw5 c1 HNW HFR
      repeat (first
        | (refine' C.wpMix_value _ rfl rfl _ _; rotate_left; (solve | (intro W; go_simp) | (intro W; go_simp; with_reducible rfl)); simp only [Act.put, List.setIfInBounds_toArray, List.set_cons_zero, List.set_cons_succ])
        | (refine' C.wpMix_read _ rfl rfl _ _; rotate_left; (solve | (rintro W h1; go_simp) | (rintro W h1; go_simp; with_reducible rfl)); simp only [Act.put, List.setIfInBounds_toArray, List.set_cons_zero, List.set_cons_succ]))
      refine C.wpMix_call 77 #[.pointer (some ⟨pa, 0, none⟩), .int .u64 hd] (by decide) rfl (by go_simp) ?_
      refine (RAt_some R5.out.ar HFO.out).mono ?_
      rintro e w6 ⟨rfl, rfl⟩
      refine ⟨_, rfl, fun _ => R5.out.c1, ?_⟩
      simp only [Act.put, List.setIfInBounds_toArray, List.set_cons_zero, List.set_cons_succ]
      repeat (first
        | (refine' C.wpMix_value _ rfl rfl _ _; rotate_left; (solve | (intro W; go_simp) | (intro W; go_simp; with_reducible rfl)); simp only [Act.put, List.setIfInBounds_toArray, List.set_cons_zero, List.set_cons_succ])
        | (refine' C.wpMix_read _ rfl rfl _ _; rotate_left; (solve | (rintro W h1; go_simp) | (rintro W h1; go_simp; with_reducible rfl)); simp only [Act.put, List.setIfInBounds_toArray, List.set_cons_zero, List.set_cons_succ]))
      refine C.wpMix_call 76 #[.pointer (some ⟨pa, 0, none⟩), .int .i64 i] (by decide) rfl (by go_simp) ?_
      refine (RDrop_any R5.out.ar HFO.out.1 HFO.out.2.1).mono ?_
      rintro e w7 ⟨v7, rfl, ha7, hf7⟩
      have R7 := hid (R5.out.arena (fun o ho => HZ.out o (List.mem_filter.1 ho).1) ha7 hf7 (fun k hk => by
        rcases hk with e | e
        · exact .inl e
        · exact .inr e.1))
      have F7 := hid (F5.out.trans hf7 (fun k hk hlt => .inr (by rw [← nw_lt (l := (-3, 0)) (F := F) hlt]; exact R5.out.fa k hk)))
      have HS5 := hid F5.out.size
      clear ha7 hf7 R5 F5
      refine ⟨_, rfl, fun _ => R7.out.c1, ?_⟩
      simp only [Act.put, List.setIfInBounds_toArray, List.set_cons_zero, List.set_cons_succ]
      refine C.wpMix_end ?_
      go_wp2
      go_ret
      refine ⟨rfl, i, sp, HFO.out, _, _, _, R7.out, fun k hk => ?_, fun k hk => ?_, F7.out⟩
      · rw [nw_lt (by have := HS5.out; omega), nw_lt hk]
      · by_cases e : k < w5.heap.size
        · rw [nw_lt e, nw_ge hk]; exact .inl rfl
        · rw [nw_ge (by omega)]; exact .inr rfl
end
end Go.Proofs.Ytmkajdfajcodjaa

namespace Go.Proofs.Ytmkajdfajcodjaa
open Go Go.ChangeShapes Go.WideShapes Go.ChangeAt Go.RowKit

abbrev TLk : TypeId := 67
/-- The heap, who waits, the links that are let go, who went, what foreign was told. -/
structure GoE (W : World) (p pa : Nat) (Sa : Nat → Prop) (A : Ar) (F : Nat → Lab) (B : Int → Nat) (top : Int) (L : HL) (lv v1 v2 v8 v9 : Value) (wa : List Int) (P : List Lk) (g f : List Int) : Prop where
  h : RhW W p pa Sa A F B top L lv
  r1 : W.ownsRow 0 TU 1 v1 wa.length (wa.map u64v)
  l1 : ∀ k, v1.ownBlock = some k → F k = (-4, 0)
  r2 : W.ownsRow 0 TLk 2 v2 P.length (lkv P)
  l2 : ∀ k, v2.ownBlock = some k → F k = (-7, 0)
  r8 : W.ownsRow 0 TU 1 v8 g.length (g.map u64v)
  l8 : ∀ k, v8.ownBlock = some k → F k = (-5, 0)
  r9 : W.ownsRow 0 TU 1 v9 f.length (f.map u64v)
  l9 : ∀ k, v9.ownBlock = some k → F k = (-6, 0)
section
variable {w W W' : World} {p pa : Nat} {Sa : Nat → Prop} {A A0 : Ar} {F F' : Nat → Lab} {B : Int → Nat} {top : Int} {L L' : HL} {lv v1 v2 v8 v9 : Value} {wa g f d : List Int} {P : List Lk} {fp : Nat → Prop}
theorem row_on {T : TypeId} {k n : Nat} {v : Value} {xs : List Value} {l : Lab} (h : W.ownsRow 0 T k v n xs) (hl : ∀ b, v.ownBlock = some b → F b = l) (hf : Fr fp W W') (hfp : ∀ b, fp b → F b ≠ l) (hF : ∀ b, b < W.heap.size → F' b = F b) :
    W'.ownsRow 0 T k v n xs ∧ ∀ b, v.ownBlock = some b → F' b = l :=
  ⟨hf.owns h (fun b hb e => hfp b e (hl b hb)), fun b hb => by rw [hF b (h.lt b hb).2]; exact hl b hb⟩
/-- The heap has turned. -/
theorem GoE.heap (h : GoE W p pa Sa A F B top L lv v1 v2 v8 v9 wa P g f) {Sa' : Nat → Prop} {A' : Ar} {lv' : Value} (hh : RhW W' p pa Sa' A' F' B top L' lv') (hf : Fr fp W W') (hfp : ∀ b, fp b → F b = (-1, 0) ∨ F b = (0, 0) ∨ 1 ≤ (F b).1) (hF : ∀ b, b < W.heap.size → F' b = F b) :
    GoE W' p pa Sa' A' F' B top L' lv' v1 v2 v8 v9 wa P g f := by
  have ne : ∀ l : Int, l ≤ -4 → ∀ b, fp b → F b ≠ (l, 0) := fun l hl b hb e => by
    rcases hfp b hb with q | q | q
    · rw [q] at e; have := congrArg Prod.fst e; simp only at this; omega
    · rw [q] at e; have := congrArg Prod.fst e; simp only at this; omega
    · rw [e] at q; simp only at q; omega
  obtain ⟨a1, b1⟩ := row_on h.r1 h.l1 hf (ne (-4) (by omega)) hF
  obtain ⟨a2, b2⟩ := row_on h.r2 h.l2 hf (ne (-7) (by omega)) hF
  obtain ⟨a8, b8⟩ := row_on h.r8 h.l8 hf (ne (-5) (by omega)) hF
  obtain ⟨a9, b9⟩ := row_on h.r9 h.l9 hf (ne (-6) (by omega)) hF
  exact ⟨hh, a1, b1, a2, b2, a8, b8, a9, b9⟩
theorem GoE.rest (h : RhW W p pa Sa A F B top L lv) (hz : ∀ o ∈ L, 1 ≤ o.h) (l : Int) (hl : l ≤ -4) (hf : Fr fp W W') (hfp : ∀ b, fp b → F b = (l, 0)) : RhW W' p pa Sa A (nw F W.heap.size (l, 0)) B top L lv := by
  have ne : ∀ k m j, F k = (m, j) → m ≠ l → ¬ fp k := fun k m j e hm hk => by
    rw [hfp k hk] at e
    exact hm (congrArg Prod.fst e).symm
  exact h.fr hf (ne _ _ _ h.fp (by omega)) (fun k e => ne _ _ _ e (by omega)) (fun k e => ne _ _ _ e (by omega)) (fun o ho k j e => ne _ _ _ e (by have := hz o ho; omega)) (fun k hk => nw_lt hk)
theorem lab_new {v v' : Value} {l : Lab} {n : Nat} (hl : ∀ b, v.ownBlock = some b → F b = l) (hlt : ∀ b, v.ownBlock = some b → b < n) (ho : ∀ b, v'.ownBlock = some b → v.ownBlock = some b ∨ n ≤ b) : ∀ b, v'.ownBlock = some b → nw F n l b = l := fun b hb => by
  rcases ho b hb with e | e
  · rw [nw_lt (hlt b e)]; exact hl b e
  · exact nw_ge e
theorem GoE.push1 (h : GoE W p pa Sa A F B top L lv v1 v2 v8 v9 wa P g f) (hz : ∀ o ∈ L, 1 ≤ o.h) {v' : Value} {xs : List Int} (hf : Fr (fun k => v1.ownBlock = some k) W W') (hr : W'.ownsRow 0 TU 1 v' xs.length (xs.map u64v)) (ho : ∀ k, v'.ownBlock = some k → v1.ownBlock = some k ∨ W.heap.size ≤ k) :
    GoE W' p pa Sa A (nw F W.heap.size (-4, 0)) B top L lv v' v2 v8 v9 xs P g f := by
  have hF : ∀ b, b < W.heap.size → nw F W.heap.size (-4, 0) b = F b := fun b hb => nw_lt hb
  have ne : ∀ l : Int, l ≠ -4 → ∀ b, v1.ownBlock = some b → F b ≠ (l, 0) := fun l hl b hb e => by
    rw [h.l1 b hb] at e; exact hl (congrArg Prod.fst e).symm
  obtain ⟨a2, b2⟩ := row_on h.r2 h.l2 hf (ne (-7) (by omega)) hF
  obtain ⟨a8, b8⟩ := row_on h.r8 h.l8 hf (ne (-5) (by omega)) hF
  obtain ⟨a9, b9⟩ := row_on h.r9 h.l9 hf (ne (-6) (by omega)) hF
  exact ⟨GoE.rest h.h hz (-4) (by omega) hf h.l1, hr, lab_new h.l1 (fun b hb => (h.r1.lt b hb).2) ho, a2, b2, a8, b8, a9, b9⟩
theorem GoE.push2 (h : GoE W p pa Sa A F B top L lv v1 v2 v8 v9 wa P g f) (hz : ∀ o ∈ L, 1 ≤ o.h) {v' : Value} {P' : List Lk} (hf : Fr (fun k => v2.ownBlock = some k) W W') (hr : W'.ownsRow 0 TLk 2 v' P'.length (lkv P')) (ho : ∀ k, v'.ownBlock = some k → v2.ownBlock = some k ∨ W.heap.size ≤ k) :
    GoE W' p pa Sa A (nw F W.heap.size (-7, 0)) B top L lv v1 v' v8 v9 wa P' g f := by
  have hF : ∀ b, b < W.heap.size → nw F W.heap.size (-7, 0) b = F b := fun b hb => nw_lt hb
  have ne : ∀ l : Int, l ≠ -7 → ∀ b, v2.ownBlock = some b → F b ≠ (l, 0) := fun l hl b hb e => by
    rw [h.l2 b hb] at e; exact hl (congrArg Prod.fst e).symm
  obtain ⟨a1, b1⟩ := row_on h.r1 h.l1 hf (ne (-4) (by omega)) hF
  obtain ⟨a8, b8⟩ := row_on h.r8 h.l8 hf (ne (-5) (by omega)) hF
  obtain ⟨a9, b9⟩ := row_on h.r9 h.l9 hf (ne (-6) (by omega)) hF
  exact ⟨GoE.rest h.h hz (-7) (by omega) hf h.l2, a1, b1, hr, lab_new h.l2 (fun b hb => (h.r2.lt b hb).2) ho, a8, b8, a9, b9⟩
theorem GoE.push8 (h : GoE W p pa Sa A F B top L lv v1 v2 v8 v9 wa P g f) (hz : ∀ o ∈ L, 1 ≤ o.h) {v' : Value} {xs : List Int} (hf : Fr (fun k => v8.ownBlock = some k) W W') (hr : W'.ownsRow 0 TU 1 v' xs.length (xs.map u64v)) (ho : ∀ k, v'.ownBlock = some k → v8.ownBlock = some k ∨ W.heap.size ≤ k) :
    GoE W' p pa Sa A (nw F W.heap.size (-5, 0)) B top L lv v1 v2 v' v9 wa P xs f := by
  have hF : ∀ b, b < W.heap.size → nw F W.heap.size (-5, 0) b = F b := fun b hb => nw_lt hb
  have ne : ∀ l : Int, l ≠ -5 → ∀ b, v8.ownBlock = some b → F b ≠ (l, 0) := fun l hl b hb e => by
    rw [h.l8 b hb] at e; exact hl (congrArg Prod.fst e).symm
  obtain ⟨a1, b1⟩ := row_on h.r1 h.l1 hf (ne (-4) (by omega)) hF
  obtain ⟨a2, b2⟩ := row_on h.r2 h.l2 hf (ne (-7) (by omega)) hF
  obtain ⟨a9, b9⟩ := row_on h.r9 h.l9 hf (ne (-6) (by omega)) hF
  exact ⟨GoE.rest h.h hz (-5) (by omega) hf h.l8, a1, b1, a2, b2, hr, lab_new h.l8 (fun b hb => (h.r8.lt b hb).2) ho, a9, b9⟩
theorem GoE.push9 (h : GoE W p pa Sa A F B top L lv v1 v2 v8 v9 wa P g f) (hz : ∀ o ∈ L, 1 ≤ o.h) {v' : Value} {xs : List Int} (hf : Fr (fun k => v9.ownBlock = some k) W W') (hr : W'.ownsRow 0 TU 1 v' xs.length (xs.map u64v)) (ho : ∀ k, v'.ownBlock = some k → v9.ownBlock = some k ∨ W.heap.size ≤ k) :
    GoE W' p pa Sa A (nw F W.heap.size (-6, 0)) B top L lv v1 v2 v8 v' wa P g xs := by
  have hF : ∀ b, b < W.heap.size → nw F W.heap.size (-6, 0) b = F b := fun b hb => nw_lt hb
  have ne : ∀ l : Int, l ≠ -6 → ∀ b, v9.ownBlock = some b → F b ≠ (l, 0) := fun l hl b hb e => by
    rw [h.l9 b hb] at e; exact hl (congrArg Prod.fst e).symm
  obtain ⟨a1, b1⟩ := row_on h.r1 h.l1 hf (ne (-4) (by omega)) hF
  obtain ⟨a2, b2⟩ := row_on h.r2 h.l2 hf (ne (-7) (by omega)) hF
  obtain ⟨a8, b8⟩ := row_on h.r8 h.l8 hf (ne (-5) (by omega)) hF
  exact ⟨GoE.rest h.h hz (-6) (by omega) hf h.l9, a1, b1, a2, b2, a8, b8, hr, lab_new h.l9 (fun b hb => (h.r9.lt b hb).2) ho⟩
/-- One call of Go, begun at w. -/
def GoS (w : World) (p pa : Nat) (A0 : Ar) (F : Nat → Lab) (B : Int → Nat) (top : Int) (L : HL) (v1 v2 v8 v9 : Value) (wa : List Int) (P : List Lk) (g f d : List Int) (W : World) : Prop :=
  (∃ Sa A F1 lv, GoE W p pa Sa A F1 B top L lv v1 v2 v8 v9 wa P g f ∧ DrR A0 d A ∧ (∀ o ∈ L, ∃ i sp, Found A o.h i sp) ∧ (∀ k, k < w.heap.size → F1 k = F k)) ∧ FrF F w W
end
end Go.Proofs.Ytmkajdfajcodjaa

namespace Go.Proofs.Ytmkajdfajcodjaa
open Go Go.ChangeShapes Go.WideShapes Go.ChangeAt Go.RowKit

def drp (L : HL) (l : List Int) : HL := L.filter fun y => !(l.contains y.h)
theorem drp_nil (L : HL) : drp L [] = L := List.filter_eq_self.2 (by simp)
theorem rst_drp (L : HL) (l : List Int) (y : Int) : rst (drp L l) y = drp L (l ++ [y]) := by
  unfold rst drp
  rw [List.filter_filter]
  refine List.filter_congr fun z _ => ?_
  rw [List.contains_append, List.contains_cons]
  cases l.contains z.h <;> cases (z.h == y) <;> rfl
theorem drp_nd {L : HL} (hn : Nd L) (l : List Int) : Nd (drp L l) := hn.sublist (List.filter_sublist.map _)
theorem mem_drp {L : HL} {l : List Int} {o : Ob} : o ∈ drp L l ↔ o ∈ L ∧ o.h ∉ l := by
  unfold drp
  rw [List.mem_filter]
  simp
theorem fnd_drp {L : HL} (hn : Nd L) {l : List Int} {y : Int} {o : Ob} (h : fnd L y = some o) (hy : y ∉ l) : fnd (drp L l) y = some o := by
  obtain ⟨h1, rfl⟩ := fnd_some h
  exact fnd_mem (drp_nd hn l) (mem_drp.2 ⟨h1, hy⟩)
theorem found_drop {A : Ar} (_hA : Ok A) {x y : Int} {i j : Nat} {s t : Spot} (hx : Found A x i s) (hy : Found A y j t) (hne : x ≠ y) : Found (dropAt A j t) x i s := by
  refine ⟨(drop_at hy.1 i s hx.2.1).2 ⟨hx.1, fun e => ?_⟩, hx.2.1, hx.2.2⟩
  subst e
  have h1 := hx.1
  rw [hy.1] at h1
  cases h1
  exact hne (hx.2.2.trans hy.2.2.symm)
/-- Objects that are no more lie as they lay. -/
def KeO (W : World) (F : Nat → Lab) (W' : World) (F' : Nat → Lab) : Prop := ∀ (b : Nat) (sv iv : Value) (o : Ob), 1 ≤ o.h → RoC W F b sv iv o → RoC W' F' b sv iv o
theorem KeO.trans {W W1 W2 : World} {F F1 F2 : Nat → Lab} (h : KeO W F W1 F1) (k : KeO W1 F1 W2 F2) : KeO W F W2 F2 := fun b sv iv o h1 h2 => k b sv iv o h1 (h b sv iv o h1 h2)
/-- One call of Go, begun at w. -/
structure GoT (w : World) (p pa : Nat) (A0 : Ar) (F F1 : Nat → Lab) (B : Int → Nat) (top : Int) (L : HL) (v1 v2 v8 v9 : Value) (wa : List Int) (P : List Lk) (g f d : List Int) (W : World) : Prop where
  ex : ∃ Sa A lv, GoE W p pa Sa A F1 B top L lv v1 v2 v8 v9 wa P g f ∧ DrR A0 d A ∧ (∀ o ∈ L, ∃ i sp, Found A o.h i sp)
  ag : ∀ k, k < w.heap.size → F1 k = F k
  fr : FrF F w W
section
variable {w W W' : World} {p pa : Nat} {A0 : Ar} {F F1 : Nat → Lab} {B : Int → Nat} {top : Int} {L : HL} {v1 v2 v8 v9 : Value} {wa g f d : List Int} {P : List Lk}
theorem GoT.goS (h : GoT w p pa A0 F F1 B top L v1 v2 v8 v9 wa P g f d W) : GoS w p pa A0 F B top L v1 v2 v8 v9 wa P g f d W := by
  obtain ⟨Sa, A, lv, h1, h2, h3⟩ := h.ex
  exact ⟨⟨Sa, A, F1, lv, h1, h2, h3, h.ag⟩, h.fr⟩
theorem GoS.goT (h : GoS w p pa A0 F B top L v1 v2 v8 v9 wa P g f d W) : ∃ F1, GoT w p pa A0 F F1 B top L v1 v2 v8 v9 wa P g f d W := by
  obtain ⟨⟨Sa, A, F1, lv, h1, h2, h3, h4⟩, h5⟩ := h
  exact ⟨F1, ⟨Sa, A, lv, h1, h2, h3⟩, h4, h5⟩
/-- The frame grows. -/
theorem GoT.fro (h : GoT w p pa A0 F F1 B top L v1 v2 v8 v9 wa P g f d W) {fp : Nat → Prop} (hf : Fr fp W W') (hfp : ∀ b, fp b → F1 b ≠ outL) : FrF F w W' :=
  FrF.trans h.fr (F1 := F1) (hf.mono (fun b hb _ => hfp b hb)) h.ag
theorem ke_of {F' : Nat → Lab} {fp : Nat → Prop} (hf : Fr fp W W') (hfp : ∀ b, fp b → (F1 b).1 ≤ 0) (hF : ∀ b, b < W.heap.size → F' b = F1 b) : KeO W F1 W' F' := fun b sv iv o h1 h2 =>
  h2.fr hf (fun k j e e2 => by have := hfp k e2; rw [e] at this; simp only at this; omega) hF
theorem GoT.away (h : GoT w p pa A0 F F1 B top L v1 v2 v8 v9 wa P g f d W) (hl : L.length ≤ 100000) (hz : ∀ o ∈ L, 1 ≤ o.h) {y : Int} {o : Ob} (hy : fnd L y = some o) :
    Calls Try.prog 70 #[.pointer (some ⟨p, 0, none⟩), .int .u64 y] W fun e W' => e = .returned (.pointer (some ⟨B y, 0, none⟩)) ∧ ∃ F2 sv iv, GoT w p pa A0 F F2 B top (rst L y) v1 v2 v8 v9 wa P g f (d ++ [y]) W' ∧ KeO W F1 W' F2 ∧ RoC W' F2 (B y) sv iv o := by
  obtain ⟨Sa, A, lv, h1, h2, h3⟩ := h.ex
  obtain ⟨hm, rfl⟩ := fnd_some hy
  obtain ⟨i, sp, hf⟩ := h3 o hm
  obtain ⟨sv, iv, hb⟩ := h1.h.ob o hm
  have hok : Ok A := by obtain ⟨_, _, _, _, q, _⟩ := h1.h.ar; exact q
  refine (RAway_any h1.h hl hz hy hf).mono ?_
  rintro e W' ⟨rfl, i2, sp2, hf2, Sa', F', lv', k1, k2, k3, k4⟩
  obtain ⟨rfl, rfl⟩ := Found.same hok hf hf2
  have hke : KeO W F1 W' F' := ke_of k4 (fun b hb => by rcases hb with e | e <;> rw [e] <;> simp) k2
  refine ⟨rfl, F', sv, iv, ⟨⟨Sa', _, lv', h1.heap k1 k4 (fun b hb => by rcases hb with e | e; exact .inl e; exact .inr (.inl e)) k2, drr_more h2 (.cons hf (.nil _)), fun z hz2 => ?_⟩, fun k hk => ?_, h.fro k4 (fun b hb => by rcases hb with e | e <;> rw [e] <;> simp [outL])⟩, hke, hke _ _ _ _ (hz o hm) hb⟩
  · have hz3 := List.mem_filter.1 hz2
    obtain ⟨j, r, hr⟩ := h3 z hz3.1
    exact ⟨j, r, found_drop hok hr hf (by simpa using hz3.2)⟩
  · rw [k2 k (Nat.lt_of_lt_of_le hk h.fr.size)]; exact h.ag k hk
theorem GoT.push8 (h : GoT w p pa A0 F F1 B top L v1 v2 v8 v9 wa P g f d W) (hz : ∀ o ∈ L, 1 ≤ o.h) {v' : Value} {xs : List Int} (hf : Fr (fun k => v8.ownBlock = some k) W W') (hr : W'.ownsRow 0 TU 1 v' xs.length (xs.map u64v)) (ho : ∀ k, v'.ownBlock = some k → v8.ownBlock = some k ∨ W.heap.size ≤ k) :
    ∃ F2, GoT w p pa A0 F F2 B top L v1 v2 v' v9 wa P xs f d W' ∧ KeO W F1 W' F2 := by
  obtain ⟨Sa, A, lv, h1, h2, h3⟩ := h.ex
  exact ⟨_, ⟨⟨Sa, A, lv, h1.push8 hz hf hr ho, h2, h3⟩, fun k hk => by rw [nw_lt (Nat.lt_of_lt_of_le hk h.fr.size)]; exact h.ag k hk, h.fro hf (fun b hb => by rw [h1.l8 b hb]; simp [outL])⟩, ke_of hf (fun b hb => by rw [h1.l8 b hb]; simp) (fun b hb => nw_lt hb)⟩
theorem GoT.push9 (h : GoT w p pa A0 F F1 B top L v1 v2 v8 v9 wa P g f d W) (hz : ∀ o ∈ L, 1 ≤ o.h) {v' : Value} {xs : List Int} (hf : Fr (fun k => v9.ownBlock = some k) W W') (hr : W'.ownsRow 0 TU 1 v' xs.length (xs.map u64v)) (ho : ∀ k, v'.ownBlock = some k → v9.ownBlock = some k ∨ W.heap.size ≤ k) :
    ∃ F2, GoT w p pa A0 F F2 B top L v1 v2 v8 v' wa P g xs d W' ∧ KeO W F1 W' F2 := by
  obtain ⟨Sa, A, lv, h1, h2, h3⟩ := h.ex
  exact ⟨_, ⟨⟨Sa, A, lv, h1.push9 hz hf hr ho, h2, h3⟩, fun k hk => by rw [nw_lt (Nat.lt_of_lt_of_le hk h.fr.size)]; exact h.ag k hk, h.fro hf (fun b hb => by rw [h1.l9 b hb]; simp [outL])⟩, ke_of hf (fun b hb => by rw [h1.l9 b hb]; simp) (fun b hb => nw_lt hb)⟩
theorem GoT.push1 (h : GoT w p pa A0 F F1 B top L v1 v2 v8 v9 wa P g f d W) (hz : ∀ o ∈ L, 1 ≤ o.h) {v' : Value} {xs : List Int} (hf : Fr (fun k => v1.ownBlock = some k) W W') (hr : W'.ownsRow 0 TU 1 v' xs.length (xs.map u64v)) (ho : ∀ k, v'.ownBlock = some k → v1.ownBlock = some k ∨ W.heap.size ≤ k) :
    ∃ F2, GoT w p pa A0 F F2 B top L v' v2 v8 v9 xs P g f d W' ∧ KeO W F1 W' F2 := by
  obtain ⟨Sa, A, lv, h1, h2, h3⟩ := h.ex
  exact ⟨_, ⟨⟨Sa, A, lv, h1.push1 hz hf hr ho, h2, h3⟩, fun k hk => by rw [nw_lt (Nat.lt_of_lt_of_le hk h.fr.size)]; exact h.ag k hk, h.fro hf (fun b hb => by rw [h1.l1 b hb]; simp [outL])⟩, ke_of hf (fun b hb => by rw [h1.l1 b hb]; simp) (fun b hb => nw_lt hb)⟩
theorem GoT.push2 (h : GoT w p pa A0 F F1 B top L v1 v2 v8 v9 wa P g f d W) (hz : ∀ o ∈ L, 1 ≤ o.h) {v' : Value} {P' : List Lk} (hf : Fr (fun k => v2.ownBlock = some k) W W') (hr : W'.ownsRow 0 TLk 2 v' P'.length (lkv P')) (ho : ∀ k, v'.ownBlock = some k → v2.ownBlock = some k ∨ W.heap.size ≤ k) :
    ∃ F2, GoT w p pa A0 F F2 B top L v1 v' v8 v9 wa P' g f d W' ∧ KeO W F1 W' F2 := by
  obtain ⟨Sa, A, lv, h1, h2, h3⟩ := h.ex
  exact ⟨_, ⟨⟨Sa, A, lv, h1.push2 hz hf hr ho, h2, h3⟩, fun k hk => by rw [nw_lt (Nat.lt_of_lt_of_le hk h.fr.size)]; exact h.ag k hk, h.fro hf (fun b hb => by rw [h1.l2 b hb]; simp [outL])⟩, ke_of hf (fun b hb => by rw [h1.l2 b hb]; simp) (fun b hb => nw_lt hb)⟩
/-- The links are begun anew. -/
theorem GoT.nil2 (h : GoT w p pa A0 F F1 B top L v1 v2 v8 v9 wa P g f d W) : GoT w p pa A0 F F1 B top L v1 (.slice none 0 0) v8 v9 wa [] g f d W := by
  obtain ⟨Sa, A, lv, h1, h2, h3⟩ := h.ex
  exact ⟨⟨Sa, A, lv, ⟨h1.h, h1.r1, h1.l1, World.ownsRow_nil _ _ _ _, fun k hk => by simp [Value.ownBlock] at hk, h1.r8, h1.l8, h1.r9, h1.l9⟩, h2, h3⟩, h.ag, h.fr⟩
/-- A count is another one. -/
theorem GoT.setc (h : GoT w p pa A0 F F1 B top L v1 v2 v8 v9 wa P g f d W) (hn : Nd L) {o : Ob} (ho : o ∈ L) (hz : 1 ≤ o.h) (c : Int) : GoT w p pa A0 F F1 B top (setc L o.h c) v1 v2 v8 v9 wa P g f d (W.setCell ⟨B o.h, 2, none⟩ (.int .u32 c)) := by
  obtain ⟨Sa, A, lv, h1, h2, h3⟩ := h.ex
  obtain ⟨sv, iv, hb⟩ := h1.h.ob o ho
  have hfr : Fr (fun k => k = B o.h) W (W.setCell ⟨B o.h, 2, none⟩ (.int .u32 c)) := (Fr.refl _ _).setCell _ _ (fun _ => rfl)
  refine ⟨⟨Sa, A, lv, h1.heap (h1.h.setc hn ho hz c) hfr (fun b e => .inr (.inr (by rw [e, hb.fb]; exact hz))) (fun _ _ => rfl), h2, fun z hz2 => ?_⟩, h.ag, h.fro hfr (fun b e => by
    rw [e, hb.fb]
    intro e2
    have := congrArg Prod.fst e2
    simp only [outL] at this
    omega)⟩
  obtain ⟨q, hq, e, _⟩ := setc_mem hz2
  rw [e]
  exact h3 q hq
theorem GoT.rows (h : GoT w p pa A0 F F1 B top L v1 v2 v8 v9 wa P g f d W) : W.ownsRow 0 TU 1 v1 wa.length (wa.map u64v) ∧ W.ownsRow 0 TLk 2 v2 P.length (lkv P) ∧ W.ownsRow 0 TU 1 v8 g.length (g.map u64v) ∧ W.ownsRow 0 TU 1 v9 f.length (f.map u64v) := by
  obtain ⟨Sa, A, lv, h1, h2, h3⟩ := h.ex
  exact ⟨h1.r1, h1.r2, h1.r8, h1.r9⟩
end
end Go.Proofs.Ytmkajdfajcodjaa
