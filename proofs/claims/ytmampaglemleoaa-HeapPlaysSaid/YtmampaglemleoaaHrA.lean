/- RaC RaD HrA in one -/
import Derived.Test.YtmampaglemleoaaRaB
import Derived.Test.YtmampaglemleoaaHqE
namespace Go.Proofs.Ytmampaglemleoaa
open Go Go.ChangeShapes Go.WideShapes Go.ChangeAt Go.RowKit

theorem spot_of {A : Ar} {R : List RSpot} (hL : A.L = R.map toSpot) {i : Nat} {s : Spot} (hs : A.L[i]? = some s) : ∃ r, R[i]? = some r ∧ toSpot r = s := by
  rw [hL, List.getElem?_map] at hs
  cases hq : R[i]? with
  | none => rw [hq] at hs; cases hs
  | some r => rw [hq] at hs; exact ⟨r, rfl, Option.some.inj hs⟩
def RDropPost (S : Nat → Prop) (w : World) (p : Nat) (A' : Ar) (e : Ending) (w' : World) : Prop := ∃ v, e = .returned v ∧ RInS (ext S w w') w' p A' ∧ Fr S w w'
set_option maxHeartbeats 1000000 in
theorem RDrop_worn (S : Nat → Prop) (w : World) (p : Nat) (A : Ar) (i : Nat) (s : Spot) (h : RInS S w p A) (hs : A.L[i]? = some s) (ht : s.t = true) (hw : ¬ s.g < 4294967295) :
    Calls Try.prog 76 #[.pointer (some ⟨p, 0, none⟩), .int .i64 i] w (RDropPost S w p (dropAt A i s)) := by
  obtain ⟨cv, fv, R, h1, h2, h3, h4, h5, h6⟩ := h
  have hgen := h2.gen i s hs
  have hok := drop_ok h2 hs ht
  obtain ⟨r, hr, hrs⟩ := spot_of h1.hR hs
  have hrg : (r.g : Int) = 4294967295 := by have : r.g = s.g := by rw [← hrs]; rfl
                                            omega
  obtain ⟨b, k, hcv⟩ := h1.form hr
  subst hcv
  have hrlt : i < R.length := (List.getElem?_eq_some_iff.1 hr).1
  have hRl : R.length ≤ 65536 := by have := h1.len; have := h2.len; have := h2.m2; omega
  have c2 := h1.c2
  have g0 := h1.at hr rfl 0 (by omega)
  have g1 := h1.at hr rfl 1 (by omega)
  have g2 := h1.at hr rfl 2 (by omega)
  simp only [RSpot.cells, List.getElem?_cons_succ, List.getElem?_cons_zero] at g0 g1 g2
  rw [Nat.add_zero] at g0
  have z0 := h1.hc.frozenAt (i * 3)
  have z2 := h1.hc.frozenAt (i * 3 + 2)
  have hbp : b ≠ p := fun e => h1.d1 (by rw [e]; rfl)
  have hpb : p ≠ b := Ne.symm hbp
  have r2 := h1.setL (s' := ⟨0, r.g, r.s⟩) rfl hr 0 (.int .i64 0) (by omega) rfl
  have r3 := r2.setL (s := ⟨0, r.g, r.s⟩) (s' := ⟨0, r.g, 2⟩) (by simp) (List.getElem?_set_self hrlt) 2 (.int .i64 2) (by omega) rfl
  have hdr : dropAt A i s = { A with L := ((R.set i ⟨0, r.g, r.s⟩).set i ⟨0, r.g, 2⟩).map toSpot } := by
    unfold dropAt
    rw [if_neg hw, List.set_set, List.map_set, h1.hR, ← hrs]; rfl
  have hfr : Fr S w ((w.setCell ⟨b, i * 3 + 0, none⟩ (.int .i64 0)).setCell ⟨b, i * 3 + 2, none⟩ (.int .i64 2)) :=
    ((Fr.refl _ _).setCell _ _ (fun _ => h4 b rfl)).setCell _ _ (fun _ => h4 b rfl)
  have R3 := hid r3
  have HD := hid hdr
  have HR := hid hfr
  have HO := hid hok
  have H4 := hid h4
  have H5 := hid h5
  have H6 := hid h6
  rw [hrg] at g1
  clear r2 r3 hdr hfr hok h4 h5 h6 h1 h2 hs ht hw hr hrs hgen
  generalize R.length = nr at *
  clear hrg
  go_enter Try.func76, Try.ntmps76
  go_wp2
  refine bodyPost_ret (results_none rfl _ _ _) rfl ?_
  refine ⟨_, rfl, ⟨.slice (some ⟨b, 0, none⟩) nr k, fv, (R.set i ⟨0, r.g, r.s⟩).set i ⟨0, r.g, 2⟩, by rw [HD.out]; exact R3.out, HO.out, .inl h3, fun q hq => .inl (H4.out q hq), fun q hq => .inl (H5.out q hq), fun q hq => ?_⟩, HR.out⟩
  rcases hq with hq | hq
  · exact Nat.lt_of_lt_of_le (H6.out q hq) HR.out.size
  · exact hq.2

set_option maxHeartbeats 1000000 in
set_option maxRecDepth 100000 in
theorem RDrop_again (S : Nat → Prop) (w : World) (p : Nat) (A : Ar) (i : Nat) (s : Spot) (h : RInS S w p A) (hs : A.L[i]? = some s) (ht : s.t = true) (hw : s.g < 4294967295) :
    Calls Try.prog 76 #[.pointer (some ⟨p, 0, none⟩), .int .i64 i] w (RDropPost S w p (dropAt A i s)) := by
  obtain ⟨cv, fv, R, h1, h2, h3, h4, h5, h6⟩ := h
  have hok := drop_ok h2 hs ht
  obtain ⟨r, hr, hrs⟩ := spot_of h1.hR hs
  have hrg : r.g = s.g := by rw [← hrs]; rfl
  obtain ⟨b, k, hcv⟩ := h1.form hr
  subst hcv
  have hrlt : i < R.length := (List.getElem?_eq_some_iff.1 hr).1
  have hRl : R.length ≤ 65536 := by have := h1.len; have := h2.len; have := h2.m2; omega
  have hFl : A.F.length ≤ 65536 := by have := h2.fl; have := h2.len; have := h2.m2; omega
  have c2 := h1.c2
  have c3 := h1.c3
  have z3 := h1.fz 3
  have g0 := h1.at hr rfl 0 (by omega)
  have g1 := h1.at hr rfl 1 (by omega)
  have g2 := h1.at hr rfl 2 (by omega)
  simp only [RSpot.cells, List.getElem?_cons_succ, List.getElem?_cons_zero] at g0 g1 g2
  rw [Nat.add_zero] at g0
  have z0 := h1.hc.frozenAt (i * 3)
  have z1 := h1.hc.frozenAt (i * 3 + 1)
  have z2 := h1.hc.frozenAt (i * 3 + 2)
  have hbp : b ≠ p := fun e => h1.d1 (by rw [e]; rfl)
  have hpb : p ≠ b := Ne.symm hbp
  have r2 := h1.setL (s' := ⟨0, r.g, r.s⟩) rfl hr 0 (.int .i64 0) (by omega) rfl
  have r3 := r2.setL (s := ⟨0, r.g, r.s⟩) (s' := ⟨0, r.g, 0⟩) (by simp) (List.getElem?_set_self hrlt) 2 (.int .i64 0) (by omega) rfl
  have r4 := r3.setL (s := ⟨0, r.g, 0⟩) (s' := ⟨0, r.g + 1, 0⟩) (by simp) (List.getElem?_set_self (by simpa using hrlt)) 1 (.int .u32 ((r.g : Int) + 1)) (by omega) (by simp [RSpot.cells])
  have hdr : dropAt A i s = { A with L := (((R.set i ⟨0, r.g, r.s⟩).set i ⟨0, r.g, 0⟩).set i ⟨0, r.g + 1, 0⟩).map toSpot, F := A.F ++ [i] } := by
    unfold dropAt
    rw [if_pos hw, List.set_set, List.set_set, List.map_set, h1.hR, ← hrs]; rfl
  have hfr : Fr S w (((w.setCell ⟨b, i * 3 + 0, none⟩ (.int .i64 0)).setCell ⟨b, i * 3 + 2, none⟩ (.int .i64 0)).setCell ⟨b, i * 3 + 1, none⟩ (.int .u32 ((r.g : Int) + 1))) :=
    (((Fr.refl _ _).setCell _ _ (fun _ => h4 b rfl)).setCell _ _ (fun _ => h4 b rfl)).setCell _ _ (fun _ => h4 b rfl)
  have hb : ((r.g : Int) == 4294967295) = false := by simp; omega
  have hwr : IntKind.u32.wrap ((r.g : Int) + 1) = (r.g : Int) + 1 := IntWalk.u32_in _ (by omega)
  have hm9 : A.F.length + 1 ≤ maxLen := by unfold maxLen; omega
  obtain ⟨i0, hi, hz0, hz1, hz2⟩ := info_parts infoNE
  have hi' := hid hi
  have hz0' := hid hz0
  have hz1' := hid hz1
  have hz2' := hid hz2
  have R4 := hid r4
  have HD := hid hdr
  have HR := hid hfr
  have HO := hid hok
  have H4 := hid h4
  have H5 := hid h5
  have H6 := hid h6
  clear hi hz0 hz1 hz2 r2 r3 r4 hdr hfr hok h4 h5 h6 h1 h2 hs ht hw hr hrs hrg
  generalize hnr : R.length = nr at *
  clear hnr
  generalize hrgg : r.g = rg at *
  have HRG := hid hrgg
  clear hrgg
  go_enter Try.func76, Try.ntmps76
  go_upto_region 5 with fail
  obtain ⟨w4, hw4⟩ : ∃ w4, w4 = ((w.setCell ⟨b, i * 3, none⟩ (.int .i64 0)).setCell ⟨b, i * 3 + 2, none⟩ (.int .i64 0)).setCell ⟨b, i * 3 + 1, none⟩ (.int .u32 ((rg : Int) + 1)) := ⟨_, rfl⟩
  rw [← hw4]
  have k4 : RefW w4 p (.slice (some ⟨b, 0, none⟩) nr k) fv { A with L := (((R.set i ⟨0, rg, r.s⟩).set i ⟨0, rg, 0⟩).set i ⟨0, rg + 1, 0⟩).map toSpot } (((R.set i ⟨0, rg, r.s⟩).set i ⟨0, rg, 0⟩).set i ⟨0, rg + 1, 0⟩) := by rw [hw4]; exact R4.out
  have hfr4 : Fr S w w4 := by rw [hw4]; exact HR.out
  have HSZ := hid (show w4.heap.size = w.heap.size by rw [hw4]; simp)
  have C3 := k4.c3
  have Z3 := k4.fz 3
  have P4 := k4.lt
  have D2 := k4.d2
  have K5 := hid k4
  have F4 := hid hfr4
  clear hw4 k4 hfr4 R4 HR g0 g1 g2 c2 c3 z0 z1 z2 z3 hwr hb
  go_wp2_with (at_builtin; refine wpList_append_lies _ (o := ⟨some 52, _, _, _, _, _⟩) rfl (.tmp 49) (.tmp 51) 57 rfl 0 3 i0 (.int .i64 0) 1 8 Try.underlying57 hi'.out hz0'.out hz1'.out hz2'.out rfl (by decide) fv A.F.length (rowF A.F) rfl (K5.out.hf.alloc _) ⟨w4.heap.size, 0, none⟩ 1 1 [.int .i64 i] rfl rfl (one_news _ _ _ _ rfl) (by simp [Value.oneCell']) (by decide) hm9 (by omega) (Nat.zero_le _) (w4.heap.size + 1) (by simp) ?_; intro g5 k5 w5 hown5 hgrow5 hat5 hlt5; have hb5 : w5.heap[p]? = w4.heap[p]? := (by rw [hgrow5.block p (by simp; omega) (fun e => D2 e.symm)]; exact Below.heap_alloc _ _ _ P4); have c35 : w5.cell? ⟨p, 3, none⟩ = some fv := (World.cell?_of_block hb5).trans C3; have z35 : w5.frozen? ⟨p, 3, none⟩ = false := (World.frozen?_of_block hb5).trans Z3; have HO5 := hid hown5; have HG5 := hid hgrow5; have HA5 := hid hat5; have HB5 := hid hb5; clear hown5 hgrow5 hat5 hb5)
  refine bodyPost_ret (results_none rfl _ _ _) rfl ?_
  have hsz := HSZ.out
  have hown : ∀ j, (Value.slice (some ⟨g5, 0, none⟩) (A.F.length + 1) k5).ownBlock = some j → fv.ownBlock = some j ∨ w4.heap.size ≤ j := fun j hj => by
    simp [Value.ownBlock] at hj
    subst hj
    rcases HA5.out with e | e
    · exact .inl e
    · exact .inr (by omega)
  have hg5p : g5 ≠ p := fun e => by
    rcases hown p (by simp [Value.ownBlock, e]) with e | e
    · exact D2 e
    · omega
  have hfr45 : Fr (fun j => j = p ∨ fv.ownBlock = some j) w4 (w5.setCell ⟨p, 3, none⟩ (.slice (some ⟨g5, 0, none⟩) (A.F.length + 1) k5)) :=
    (((Fr.refl _ _).alloc _).grown HG5.out (fun j hj _ => .inr hj)).setCell _ _ (fun _ => .inl rfl)
  have hp5 := K5.out.hp
  rw [← HB5.out] at hp5
  have hnew := K5.out.newf (A.F ++ [i]) hfr45 (fv' := .slice (some ⟨g5, 0, none⟩) (A.F.length + 1) k5) (by rw [heap_setCell_same _ _ _ _ _ _ hp5]; rfl)
    (by
      have e1 : rowF (A.F ++ [i]) = rowF A.F ++ [.int .i64 i] := by simp [rowF]
      rw [List.length_append, e1]
      exact ownsRow_setCell_other HO5.out (by simp [Value.ownBlock]; exact hg5p) _) hown
  have hfr : Fr S w (w5.setCell ⟨p, 3, none⟩ (.slice (some ⟨g5, 0, none⟩) (A.F.length + 1) k5)) := F4.out.trans hfr45 (fun j hj _ => by
    rcases hj with rfl | hj
    · exact h3
    · exact H5.out j hj)
  have hdo := HO.out
  rw [HD.out] at hdo ⊢
  refine ⟨_, rfl, ⟨_, _, _, hnew, hdo, .inl h3, fun j hj => .inl (H4.out j hj), fun j hj => ?_, fun j hj => ?_⟩, hfr⟩
  · rcases hown j hj with e | e
    · exact .inl (H5.out j e)
    · exact .inr ⟨by omega, (hnew.hf.lt j hj).2⟩
  · rcases hj with hj | hj
    · exact Nat.lt_of_lt_of_le (H6.out j hj) hfr.size
    · exact hj.2

end Go.Proofs.Ytmampaglemleoaa

namespace Go.Proofs.Ytmampaglemleoaa
open Go Go.ChangeShapes Go.WideShapes Go.ChangeAt Go.RowKit

/-- The handles of what is taken, from a place on. -/
def allF : Nat → List Spot → List Int
  | _, [] => []
  | k, s :: L => if s.t then hand k s.g :: allF (k + 1) L else allF (k + 1) L
theorem allF_snoc (k : Nat) (M : List Spot) (s : Spot) : allF k (M ++ [s]) = allF k M ++ (if s.t then [hand (k + M.length) s.g] else []) := by
  induction M generalizing k with
  | nil => simp [allF]
  | cons a M ih =>
    simp only [List.cons_append, allF, ih (k + 1), List.length_cons]
    have e : k + 1 + M.length = k + (M.length + 1) := by omega
    rw [e]
    cases a.t <;> simp
theorem allF_len (k : Nat) (M : List Spot) : (allF k M).length = cnt M := by
  induction M generalizing k with
  | nil => rfl
  | cons a M ih =>
    simp only [allF, cnt, List.filter_cons]
    have := ih (k + 1)
    simp only [cnt] at this
    cases a.t <;> simp [this]
theorem infoRU : (Try.prog.info? 34).map (fun i => (i.zero, i.size, i.bytes)) = some (some (.int .u64 0), 1, 8) := by kernel_rfl
/-- All: the handles of what is taken, in a row of its own. -/
def RAllPost (w : World) (A : Ar) (e : Ending) (w' : World) : Prop :=
  ∃ v, e = .returned v ∧ w'.ownsRow w.heap.size 34 1 v (allF 0 A.L).length ((allF 0 A.L).map (Value.int .u64)) ∧ Below w.heap.size w w'
def RAllInv (w0 : World) (A : Ar) (q : Nat) (v : Value) (w : World) : Prop := w.ownsRow w0.heap.size 34 1 v (allF 0 (A.L.take q)).length ((allF 0 (A.L.take q)).map (Value.int .u64)) ∧ Below w0.heap.size w0 w
set_option maxHeartbeats 1000000 in
set_option maxRecDepth 100000 in
theorem RAll_any (S : Nat → Prop) (w : World) (p : Nat) (A : Ar) (h : RInS S w p A) : Calls Try.prog 21 #[.pointer (some ⟨p, 0, none⟩)] w (RAllPost w A) := by
  obtain ⟨cv, fv, R, h1, h2, h3, h4, h5, h6⟩ := h
  obtain ⟨a, k, hcv⟩ := h1.shape
  have hRl : R.length ≤ 65536 := by have := h1.len; have := h2.len; have := h2.m2; omega
  have hlen := h1.len
  obtain ⟨i0, hi, hz0, hz1, hz2⟩ := info_parts infoRU
  have hi' := hid hi
  have hz0' := hid hz0
  have hz1' := hid hz1
  have hz2' := hid hz2
  obtain ⟨n, hn⟩ : ∃ n, n = R.length := ⟨_, rfl⟩
  have hplt := h1.lt
  have hcvb : ∀ q, cv.ownBlock = some q → q < w.heap.size := fun q hq => (h1.hc.lt q hq).2
  rw [← hn] at hcv hRl hlen
  have HN := hid hn
  have HW := hid h1
  have HA := hid h2
  have HCV := hid hcv
  have HLN := hid hlen
  have HCB := hid hcvb
  clear hi hz0 hz1 hz2 hn hcv h1 h2 h3 h4 h5 h6 hlen hcvb
  go_enter Try.func21, Try.ntmps21
  go_wp2
  go_loopw [3, 4] (fun v i wr => ∃ q : Nat, q ≤ n ∧ i = .int .i64 q ∧ RAllInv w A q v wr) (fun _ i _ => n - (intOf i).toNat)
  case atStart => exact ⟨0, by omega, rfl, World.ownsRow_nil _ _ _ _, Below.refl _ _⟩
  case round =>
    obtain ⟨q, hq1, rfl, hrow, hB⟩ := hrel
    have c2 : wr.cell? ⟨p, 2, none⟩ = some (.slice a n k) := by rw [hB.cell (p := ⟨p, 2, none⟩) hplt, HW.out.c2, HCV.out]
    have HRW := hid hrow
    have HBB := hid hB
    by_cases hql : q < n
    · have hqR : q < R.length := by rw [← HN.out]; exact hql
      have hr : R[q]? = some R[q] := List.getElem?_eq_getElem hqR
      generalize R[q] = r at hr
      obtain ⟨g, k', hcv2⟩ := HW.out.form hr
      have hgb : g < w.heap.size := HCB.out g (by rw [hcv2]; rfl)
      have g1 := HW.out.at hr hcv2 1 (by omega)
      have g2 := HW.out.at hr hcv2 2 (by omega)
      rw [← hB.cell (p := ⟨g, q * 3 + 1, none⟩) hgb] at g1
      rw [← hB.cell (p := ⟨g, q * 3 + 2, none⟩) hgb] at g2
      rw [HCV.out, ← HN.out] at hcv2
      simp only [Value.slice.injEq] at hcv2
      obtain ⟨rfl, -, rfl⟩ := hcv2
      have hs : A.L[q]? = some (toSpot r) := by rw [HW.out.hR]; simp [hr]
      have hgen := (HA.out.gen q _ hs).2
      have hql2 : q < A.L.length := (List.getElem?_eq_some_iff.1 hs).1
      have htk : allF 0 (A.L.take (q + 1)) = allF 0 (A.L.take q) ++ (if (toSpot r).t then [hand q (toSpot r).g] else []) := by
        rw [List.take_succ_eq_append_getElem hql2, allF_snoc]
        have e1 : A.L[q] = toSpot r := by
          have := List.getElem?_eq_getElem hql2
          rw [hs] at this; exact (Option.some.inj this).symm
        have e2 : 0 + (A.L.take q).length = q := by simp; omega
        rw [e1, e2]
      have hal : (allF 0 (A.L.take q)).length ≤ 65536 := by
        rw [allF_len]
        have := cnt_le (A.L.take q)
        have : (A.L.take q).length ≤ q := List.length_take_le _ _
        omega
      obtain ⟨rx, rg, rs⟩ := r
      simp only [RSpot.cells, List.getElem?_cons_succ, List.getElem?_cons_zero] at g1 g2
      simp only [toSpot] at hgen htk
      have hgb2 : rg ≤ 4294967295 := hgen
      have HT := hid htk
      clear hs hr hqR hgen htk hql2 hrow hB
      have hh := fun W => Handle_any q rg W (by omega) hgb2
      by_cases hst : rs = 1
      · subst hst
        obtain ⟨hv, hhv⟩ : ∃ hv, hv = hand q rg := ⟨_, rfl⟩
        rw [← hhv] at hh
        have HV := hid hhv
        have HH := hid hh
        clear hh hhv
        obtain ⟨n3, hn3⟩ : ∃ n3, n3 = (allF 0 (A.L.take q)).length := ⟨_, rfl⟩
        have HR3 := HRW.out
        rw [← hn3] at HR3 hal
        have HR4 := hid HR3
        have HN3 := hid hn3
        obtain ⟨a3, k3, hv3⟩ : ∃ a k, u3 = .slice a n3 k := by
          rcases HR3.2 with ⟨e1, e2⟩ | ⟨g, cap, _, e1, _⟩
          · exact ⟨none, 0, by rw [e1, e2]⟩
          · exact ⟨_, cap, e1⟩
        subst hv3
        clear HR3 hn3
        go_wp2_with (first | (go_at_call 47; refine (HH.out _).mono ?_; rintro e w' ⟨rfl, rfl⟩) | (at_builtin; refine wpList_append_lies _ (o := ⟨some 35, _, _, _, _, _⟩) rfl (.tmp 23) (.tmp 34) 43 rfl w.heap.size 34 i0 (.int .u64 0) 1 8 Try.underlying43 hi'.out hz0'.out hz1'.out hz2'.out rfl (by decide) (.slice a3 n3 k3) n3 _ rfl (HR4.out.alloc _) ⟨wr.heap.size, 0, none⟩ 1 1 [.int .u64 hv] rfl rfl (one_news _ _ _ _ rfl) (by simp [Value.oneCell']) (by decide) (by unfold maxLen; omega) (by omega) (by have := HBB.out.size; simp; omega) (wr.heap.size + 1) (by simp) ?_; intro g5 k5 w5 hown5 hgrow5 hat5 hlt5; have HO5 := hid hown5; have HG5 := hid hgrow5; clear hown5 hgrow5 hat5))
        have hsz := HBB.out.size
        go_roundw
        case rel =>
          refine ⟨q + 1, by omega, by go_num, ?_, (HBB.out.alloc hsz _).grown HG5.out (by simp; omega) (fun j hj => (HR4.out.lt j hj).1)⟩
          rw [HT.out]
          simp only [decide_true, if_true, List.length_append, List.length_singleton, List.map_append, List.map_cons, List.map_nil]
          rw [← HN3.out, ← HV.out]
          exact HO5.out
        case measure => simp [intOf]; omega
      · have hb : (rs == 1) = false := by simpa using hst
        have HT2 : allF 0 (A.L.take (q + 1)) = allF 0 (A.L.take q) := by
          have h9 := HT.out
          simpa [toSpot, hst] using h9
        have HT3 := hid HT2
        clear hst hh HT HT2
        go_wp2
        go_roundw
        case rel => exact ⟨q + 1, by omega, by go_num, by rw [HT3.out]; exact HRW.out, HBB.out⟩
        case measure => simp [intOf]; omega
    · obtain rfl : q = n := by omega
      have ht : A.L.take q = A.L := List.take_of_length_le (by rw [HLN.out]; exact Nat.le_refl _)
      have HT := hid ht
      clear ht hrow hB
      go_wp2
      go_ret
      have := HRW.out
      rw [HT.out] at this
      exact ⟨_, rfl, this, HBB.out⟩
end Go.Proofs.Ytmampaglemleoaa

namespace Go.Proofs.Ytmampaglemleoaa
open Go Go.ChangeShapes Go.WideShapes Go.ChangeAt Go.RowKit

abbrev TOp : TypeId := 98
/-- An object of the plain twin: its block, its links, its inners. -/
structure RoC (w : World) (F : Nat → Lab) (b : Nat) (sv iv : Value) (o : Ob) : Prop where
  hb : w.heap[b]? = some (.cells #[.int .u64 o.h, .int .u64 o.outer, .int .u32 o.count, .int .i64 o.value, sv, iv] 101 (0, 0))
  hs : w.ownsRow 0 67 2 sv o.links.length (lkv o.links)
  hi : w.ownsRow 0 TU 1 iv o.inners.length (o.inners.map u64v)
  fb : F b = (o.h, 0)
  fs : ∀ k, sv.ownBlock = some k → F k = (o.h, 1)
  fi : ∀ k, iv.ownBlock = some k → F k = (o.h, 2)
section
variable {w w' : World} {F F' : Nat → Lab} {b : Nat} {sv iv : Value} {o : Ob} {fp : Nat → Prop}
theorem RoC.c0 (h : RoC w F b sv iv o) : w.cell? ⟨b, 0, none⟩ = some (.int .u64 o.h) := by rw [cell_of_row w b 0 _ _ _ h.hb]; rfl
theorem RoC.c1 (h : RoC w F b sv iv o) : w.cell? ⟨b, 1, none⟩ = some (.int .u64 o.outer) := by rw [cell_of_row w b 1 _ _ _ h.hb]; rfl
theorem RoC.c2 (h : RoC w F b sv iv o) : w.cell? ⟨b, 2, none⟩ = some (.int .u32 o.count) := by rw [cell_of_row w b 2 _ _ _ h.hb]; rfl
theorem RoC.c3 (h : RoC w F b sv iv o) : w.cell? ⟨b, 3, none⟩ = some (.int .i64 o.value) := by rw [cell_of_row w b 3 _ _ _ h.hb]; rfl
theorem RoC.c4 (h : RoC w F b sv iv o) : w.cell? ⟨b, 4, none⟩ = some sv := by rw [cell_of_row w b 4 _ _ _ h.hb]; rfl
theorem RoC.c5 (h : RoC w F b sv iv o) : w.cell? ⟨b, 5, none⟩ = some iv := by rw [cell_of_row w b 5 _ _ _ h.hb]; rfl
theorem RoC.fz (h : RoC w F b sv iv o) (k : Nat) : w.frozen? ⟨b, k, none⟩ = false := frozen_of_row w b k _ _ h.hb
theorem RoC.lt (h : RoC w F b sv iv o) : b < w.heap.size := (Array.getElem?_eq_some_iff.1 h.hb).1
theorem RoC.fr (h : RoC w F b sv iv o) (hf : Fr fp w w') (hd : ∀ k j, F k = (o.h, j) → ¬ fp k) (hF : ∀ k, k < w.heap.size → F' k = F k) : RoC w' F' b sv iv o :=
  ⟨by rw [hf.block b h.lt (hd b 0 h.fb)]; exact h.hb, hf.owns h.hs (fun k hk => hd k 1 (h.fs k hk)), hf.owns h.hi (fun k hk => hd k 2 (h.fi k hk)),
    by rw [hF b h.lt]; exact h.fb, fun k hk => by rw [hF k (h.hs.lt k hk).2]; exact h.fs k hk, fun k hk => by rw [hF k (h.hi.lt k hk).2]; exact h.fi k hk⟩
end
def RoW (w : World) (F : Nat → Lab) (b : Nat) (o : Ob) : Prop := ∃ sv iv, RoC w F b sv iv o
theorem RoW.fr {w w' : World} {F F' : Nat → Lab} {b : Nat} {o : Ob} {fp : Nat → Prop} (h : RoW w F b o) (hf : Fr fp w w') (hd : ∀ k j, F k = (o.h, j) → ¬ fp k) (hF : ∀ k, k < w.heap.size → F' k = F k) : RoW w' F' b o := by
  obtain ⟨sv, iv, h⟩ := h
  exact ⟨sv, iv, h.fr hf hd hF⟩
def opv (B : Int → Nat) (L : HL) : List Value := L.map fun o => .pointer (some ⟨B o.h, 0, none⟩)
theorem opv_at {B : Int → Nat} {L : HL} {i : Nat} {o : Ob} (h : L[i]? = some o) : (opv B L)[i]? = some (.pointer (some ⟨B o.h, 0, none⟩)) := by
  unfold opv
  rw [List.getElem?_map, h]
  rfl
/-- The plain twin in memory. -/
structure RhW (w : World) (p pa : Nat) (Sa : Nat → Prop) (A : Ar) (F : Nat → Lab) (B : Int → Nat) (top : Int) (L : HL) (lv : Value) : Prop where
  hp : w.heap[p]? = some (.cells #[.int .u32 top, .pointer (some ⟨pa, 0, none⟩), lv] 53 (0, 0))
  ar : RInS Sa w pa A
  fa : ∀ k, Sa k → F k = (0, 0)
  fp : F p = (-1, 0)
  lr : w.ownsRow 0 TOp 1 lv L.length (opv B L)
  fl : ∀ k, lv.ownBlock = some k → F k = (-3, 0)
  ob : ∀ o ∈ L, RoW w F (B o.h) o
section
variable {w w' : World} {p pa : Nat} {Sa : Nat → Prop} {A : Ar} {F F' : Nat → Lab} {B : Int → Nat} {top : Int} {L : HL} {lv : Value} {fp : Nat → Prop}
theorem RhW.c0 (h : RhW w p pa Sa A F B top L lv) : w.cell? ⟨p, 0, none⟩ = some (.int .u32 top) := by rw [cell_of_row w p 0 _ _ _ h.hp]; rfl
theorem RhW.c1 (h : RhW w p pa Sa A F B top L lv) : w.cell? ⟨p, 1, none⟩ = some (.pointer (some ⟨pa, 0, none⟩)) := by rw [cell_of_row w p 1 _ _ _ h.hp]; rfl
theorem RhW.c2 (h : RhW w p pa Sa A F B top L lv) : w.cell? ⟨p, 2, none⟩ = some lv := by rw [cell_of_row w p 2 _ _ _ h.hp]; rfl
theorem RhW.fz (h : RhW w p pa Sa A F B top L lv) (k : Nat) : w.frozen? ⟨p, k, none⟩ = false := frozen_of_row w p k _ _ h.hp
theorem RhW.lt (h : RhW w p pa Sa A F B top L lv) : p < w.heap.size := (Array.getElem?_eq_some_iff.1 h.hp).1
theorem RhW.fr (h : RhW w p pa Sa A F B top L lv) (hf : Fr fp w w') (h1 : ¬ fp p) (h2 : ∀ k, F k = (0, 0) → ¬ fp k) (h3 : ∀ k, F k = (-3, 0) → ¬ fp k) (h4 : ∀ o ∈ L, ∀ k j, F k = (o.h, j) → ¬ fp k) (hF : ∀ k, k < w.heap.size → F' k = F k) : RhW w' p pa Sa A F' B top L lv :=
  ⟨by rw [hf.block p h.lt h1]; exact h.hp, h.ar.fr hf (fun k hk => h2 k (h.fa k hk)), fun k hk => by rw [hF k (h.ar.lt k hk)]; exact h.fa k hk, by rw [hF p h.lt]; exact h.fp,
    hf.owns h.lr (fun k hk => h3 k (h.fl k hk)), fun k hk => by rw [hF k (h.lr.lt k hk).2]; exact h.fl k hk, fun o ho => (h.ob o ho).fr hf (h4 o ho) hF⟩
theorem RhW.relab (h : RhW w p pa Sa A F B top L lv) (hF : ∀ k, k < w.heap.size → F' k = F k) : RhW w p pa Sa A F' B top L lv :=
  h.fr (fp := fun _ => False) (Fr.refl _ _) (fun e => e) (fun _ _ e => e) (fun _ _ e => e) (fun _ _ _ _ _ e => e) hF
theorem RhW.drewN (h : RhW w p pa Sa A F B top L lv) (n : Nat) : RhW (w.drewN n) p pa Sa A F B top L lv :=
  h.fr (fp := fun _ => False) ((Fr.refl _ _).drewN n) (fun e => e) (fun _ _ e => e) (fun _ _ e => e) (fun _ _ _ _ _ e => e) (fun _ _ => rfl)
theorem RhW.shape (h : RhW w p pa Sa A F B top L lv) : ∃ a k, lv = .slice a L.length k := by
  rcases h.lr.2 with ⟨h1, h2⟩ | ⟨g, cap, _, h1, _⟩
  · exact ⟨none, 0, by rw [h1, h2]⟩
  · exact ⟨_, cap, h1⟩
theorem RhW.at (h : RhW w p pa Sa A F B top L lv) {i : Nat} {o : Ob} (ho : L[i]? = some o) {a : Option Addr} {k : Nat} (hv : lv = .slice a L.length k) : ∃ g, a = some ⟨g, 0, none⟩ ∧ w.cell? ⟨g, i, none⟩ = some (.pointer (some ⟨B o.h, 0, none⟩)) := by
  have hlt : i < L.length := (List.getElem?_eq_some_iff.1 ho).1
  have hl := h.lr
  obtain ⟨g, k', h1, _⟩ := hl.form (by omega)
  rw [h1] at hv
  cases hv
  rw [h1] at hl
  exact ⟨g, rfl, by rw [hl.cellAt i (by omega)]; exact opv_at ho⟩
/-- One object has turned. -/
theorem RhW.one (h : RhW w p pa Sa A F B top L lv) (hn : Nd L) {o0 : Ob} (ho : o0 ∈ L) (hz : 1 ≤ o0.h) (f : Ob → Ob) (hf : ∀ o, (f o).h = o.h) (hfr : Fr fp w w') (hfp : ∀ k, fp k → ∃ j, F k = (o0.h, j)) (hF : ∀ k, k < w.heap.size → F' k = F k) (hob : RoW w' F' (B o0.h) (f o0)) :
    RhW w' p pa Sa A F' B top (L.map fun o => if o.h = o0.h then f o else o) lv := by
  have nofp : ∀ k l j, F k = (l, j) → l ≠ o0.h → ¬ fp k := fun k l j e hl hk => by
    obtain ⟨j', e'⟩ := hfp k hk
    rw [e] at e'
    exact hl (congrArg Prod.fst e')
  have hov : opv B (L.map fun o => if o.h = o0.h then f o else o) = opv B L := by
    unfold opv
    rw [List.map_map]
    refine List.map_congr_left fun o _ => ?_
    simp only [Function.comp]
    split
    · rw [hf]
    · rfl
  refine ⟨by rw [hfr.block p h.lt (nofp p _ _ h.fp (by omega))]; exact h.hp, h.ar.fr hfr (fun k hk => nofp k _ _ (h.fa k hk) (by omega)), fun k hk => by rw [hF k (h.ar.lt k hk)]; exact h.fa k hk, by rw [hF p h.lt]; exact h.fp, ?_, fun k hk => by rw [hF k (h.lr.lt k hk).2]; exact h.fl k hk, ?_⟩
  · rw [hov, List.length_map]
    exact hfr.owns h.lr (fun k hk => nofp k _ _ (h.fl k hk) (by omega))
  · intro o hm
    obtain ⟨q, hq, rfl⟩ := List.mem_map.1 hm
    by_cases e : q.h = o0.h
    · have : q = o0 := ob_eq hn ho hq e
      subst this
      rw [if_pos rfl, hf]
      exact hob
    · rw [if_neg e]
      exact (h.ob q hq).fr hfr (fun k j e2 => nofp k _ j e2 e) hF
theorem RhW.setc (h : RhW w p pa Sa A F B top L lv) (hn : Nd L) {o : Ob} (ho : o ∈ L) (hz : 1 ≤ o.h) (c : Int) : RhW (w.setCell ⟨B o.h, 2, none⟩ (.int .u32 c)) p pa Sa A F B top (setc L o.h c) lv := by
  obtain ⟨sv, iv, hb⟩ := h.ob o ho
  have hsv : sv.ownBlock ≠ some (B o.h) := fun e => by have := hb.fs _ e; rw [hb.fb] at this; cases this
  have hiv : iv.ownBlock ≠ some (B o.h) := fun e => by have := hb.fi _ e; rw [hb.fb] at this; cases this
  refine h.one hn ho hz (fun q => { q with count := c }) (fun _ => rfl) ((Fr.refl (fun k => k = B o.h) w).setCell _ _ (fun _ => rfl)) (fun k e => ⟨0, by rw [e]; exact hb.fb⟩) (fun _ _ => rfl) ⟨sv, iv, ?_⟩
  exact ⟨by rw [heap_setCell_same _ _ _ _ _ _ hb.hb]; rfl, ownsRow_setCell_other hb.hs hsv _, ownsRow_setCell_other hb.hi hiv _, hb.fb, hb.fs, hb.fi⟩
theorem RhW.setv (h : RhW w p pa Sa A F B top L lv) (hn : Nd L) {o : Ob} (ho : o ∈ L) (hz : 1 ≤ o.h) (c : Int) : RhW (w.setCell ⟨B o.h, 3, none⟩ (.int .i64 c)) p pa Sa A F B top (setv L o.h c) lv := by
  obtain ⟨sv, iv, hb⟩ := h.ob o ho
  have hsv : sv.ownBlock ≠ some (B o.h) := fun e => by have := hb.fs _ e; rw [hb.fb] at this; cases this
  have hiv : iv.ownBlock ≠ some (B o.h) := fun e => by have := hb.fi _ e; rw [hb.fb] at this; cases this
  refine h.one hn ho hz (fun q => { q with value := c }) (fun _ => rfl) ((Fr.refl (fun k => k = B o.h) w).setCell _ _ (fun _ => rfl)) (fun k e => ⟨0, by rw [e]; exact hb.fb⟩) (fun _ _ => rfl) ⟨sv, iv, ?_⟩
  exact ⟨by rw [heap_setCell_same _ _ _ _ _ _ hb.hb]; rfl, ownsRow_setCell_other hb.hs hsv _, ownsRow_setCell_other hb.hi hiv _, hb.fb, hb.fs, hb.fi⟩
def RFindP (B : Int → Nat) (L : HL) (hd : Int) (w : World) (e : Ending) (w' : World) : Prop := w = w' ∧ ((∃ o, fnd L hd = some o ∧ e = .returned (.pointer (some ⟨B hd, 0, none⟩))) ∨ (fnd L hd = none ∧ e = .returned (.pointer none)))
/-- Find. -/
theorem RFind_any (h : RhW w p pa Sa A F B top L lv) (hl : L.length ≤ 1000000) (hd : Int) :
    Calls Try.prog 43 #[.pointer (some ⟨p, 0, none⟩), .int .u64 hd] w (RFindP B L hd w) := by
  obtain ⟨a, k, hv⟩ := h.shape
  have c2 := h.c2
  rw [hv] at c2
  have HH := hid h
  have HV := hid hv
  clear h hv
  obtain ⟨n, hn⟩ : ∃ n, n = L.length := ⟨_, rfl⟩
  rw [← hn] at c2 hl
  have HN := hid hn
  clear hn
  go_enter Try.func43, Try.ntmps43
  go_wp2
  go_loop [5] (fun i => ∃ q : Nat, q ≤ n ∧ i = .int .i64 q ∧ RowKit.Hid (∀ j o, j < q → L[j]? = some o → o.h ≠ hd)) (fun i => n - (intOf i).toNat)
  case atStart => exact ⟨0, by omega, rfl, hid (fun j o h => by omega)⟩
  case round =>
    obtain ⟨q, hq1, rfl, hno⟩ := hrel
    by_cases hql : q < n
    · have hqL : q < L.length := by rw [← HN.out]; exact hql
      have hr : L[q]? = some L[q] := List.getElem?_eq_getElem hqL
      generalize L[q] = o at hr
      obtain ⟨g, rfl, cg⟩ := HH.out.at hr HV.out
      obtain ⟨sv, iv, hb⟩ := HH.out.ob o (List.mem_of_getElem? hr)
      have co := hb.c0
      have HR := hid hr
      clear hr hb hqL
      obtain ⟨b, hbb⟩ : ∃ b, b = B o.h := ⟨_, rfl⟩
      rw [← hbb] at cg co
      have HBB := hid hbb.symm
      clear hbb
      obtain ⟨u, hu⟩ : ∃ u, u = o.h := ⟨_, rfl⟩
      rw [← hu] at co
      have HU := hid hu
      clear hu
      by_cases he : u = hd
      · have hbq : (u == hd) = true := by simpa using he
        have HE := hid he
        clear he
        go_wp2
        go_ret
        refine ⟨rfl, .inl ?_⟩
        have hm := List.mem_of_getElem? HR.out
        have hoh : o.h = hd := by rw [← HU.out]; exact HE.out
        cases hf : fnd L hd with
        | none => exact absurd hoh (fnd_none.1 hf o hm)
        | some o' => exact ⟨o', rfl, by rw [← HBB.out, hoh]; rfl⟩
      · have hbq : (u == hd) = false := by simpa using he
        have HE := hid he
        clear he
        go_wp2
        go_round
        case rel => exact ⟨q + 1, by omega, by go_num, hid (fun j o' hj ho' => by
          by_cases e : j < q
          · exact hno.out j o' e ho'
          · obtain rfl : j = q := by omega
            rw [HR.out] at ho'
            cases ho'
            rw [← HU.out]
            exact HE.out)⟩
        case measure => simp [intOf]; omega
    · go_wp2
      go_ret
      have hf : fnd L hd = none := fnd_none.2 fun o ho => by
        obtain ⟨j, hj, rfl⟩ := List.getElem_of_mem ho
        exact hno.out j _ (by have := HN.out; omega) (List.getElem?_eq_getElem hj)
      exact ⟨rfl, .inr ⟨hf, rfl⟩⟩
theorem RFind_some (h : RhW w p pa Sa A F B top L lv) (hl : L.length ≤ 1000000) {hd : Int} {o : Ob} (e : fnd L hd = some o) :
    Calls Try.prog 43 #[.pointer (some ⟨p, 0, none⟩), .int .u64 hd] w fun e w' => e = .returned (.pointer (some ⟨B hd, 0, none⟩)) ∧ w = w' :=
  (RFind_any h hl hd).mono (by
    rintro e1 w1 ⟨rfl, ⟨o', h1, rfl⟩ | ⟨h1, rfl⟩⟩
    · exact ⟨rfl, rfl⟩
    · rw [e] at h1; cases h1)
theorem RFind_none (h : RhW w p pa Sa A F B top L lv) (hl : L.length ≤ 1000000) {hd : Int} (e : fnd L hd = none) :
    Calls Try.prog 43 #[.pointer (some ⟨p, 0, none⟩), .int .u64 hd] w fun e w' => e = .returned (.pointer none) ∧ w = w' :=
  (RFind_any h hl hd).mono (by
    rintro e1 w1 ⟨rfl, ⟨o', h1, rfl⟩ | ⟨h1, rfl⟩⟩
    · rw [e] at h1; cases h1
    · exact ⟨rfl, rfl⟩)
/-- Whole. -/
theorem RWhole_some (h : RhW w p pa Sa A F B top L lv) (hl : L.length ≤ 1000000) (hi : HIn top L) {hd : Int} {x : Ob} (e : whl L hd = some x) :
    Calls Try.prog 44 #[.pointer (some ⟨p, 0, none⟩), .int .u64 hd] w fun e w' => e = .returned (.pointer (some ⟨B x.h, 0, none⟩)) ∧ w = w' := by
  obtain ⟨o, hf⟩ : ∃ o, fnd L hd = some o := by
    cases hf : fnd L hd with
    | none => rw [(whl_none hi).2 hf] at e; cases e
    | some o => exact ⟨o, rfl⟩
  obtain ⟨h1, h2⟩ := fnd_some hf
  obtain ⟨sv, iv, hb⟩ := h.ob o h1
  have hc2 := hb.c1
  have hF := RFind_some h hl hf
  rw [h2] at hc2
  rcases whl_cases hi hf with ⟨h0, h3⟩ | ⟨h0, y, hy, h4, h5, _, h3⟩
  · rw [e] at h3
    cases h3
    rw [h0] at hc2
    rw [h2]
    have HF := hid hF
    clear h hi e hf h1 h2 hb hF h0
    go_enter Try.func44, Try.ntmps44
    go_wp2_with (refine HF.out.mono ?_; rintro e w1 ⟨rfl, rfl⟩)
    go_ret
    exact ⟨rfl, rfl⟩
  · rw [e] at h3
    cases h3
    have hG := RFind_some h hl (fnd_mem hi.nd hy)
    rw [h4] at hG ⊢
    have hz : (o.outer == 0) = false := by simpa using h0
    have HF := hid hF
    have HG := hid hG
    generalize o.outer = u at *
    clear h hi e hf h1 h2 hb hF hG h0 h4
    go_enter Try.func44, Try.ntmps44
    go_wp2_with fail
    refine HF.out.mono ?_
    rintro e w1 ⟨rfl, rfl⟩
    go_wp2_with (refine HG.out.mono ?_; rintro e w1 ⟨rfl, rfl⟩)
    go_ret
    exact ⟨rfl, rfl⟩
theorem RWhole_none (h : RhW w p pa Sa A F B top L lv) (hl : L.length ≤ 1000000) {hd : Int} (e : fnd L hd = none) :
    Calls Try.prog 44 #[.pointer (some ⟨p, 0, none⟩), .int .u64 hd] w fun e w' => e = .returned (.pointer none) ∧ w = w' := by
  have HF := hid (RFind_none h hl e)
  clear h hl e
  go_enter Try.func44, Try.ntmps44
  go_wp2_with (refine HF.out.mono ?_; rintro e w1 ⟨rfl, rfl⟩)
  go_ret
  exact ⟨rfl, rfl⟩
/-- Up. -/
theorem RUp_none (h : RhW w p pa Sa A F B top L lv) (hl : L.length ≤ 1000000) {hd : Int} (e : fnd L hd = none) :
    Calls Try.prog 38 #[.pointer (some ⟨p, 0, none⟩), .int .u64 hd] w fun e w' => e = .returned (.tuple #[.int .u32 0, .int .i64 2]) ∧ w = w' := by
  have HF := hid (RWhole_none h hl e)
  clear h hl e
  go_enter Try.func38, Try.ntmps38
  go_wp2_with (refine HF.out.mono ?_; rintro e w1 ⟨rfl, rfl⟩)
  go_ret2
  exact ⟨rfl, rfl⟩
theorem RUp_top (h : RhW w p pa Sa A F B top L lv) (hl : L.length ≤ 1000000) (hi : HIn top L) {hd : Int} {x : Ob} (e : whl L hd = some x) (ht : x.count = top) :
    Calls Try.prog 38 #[.pointer (some ⟨p, 0, none⟩), .int .u64 hd] w fun e w' => e = .returned (.tuple #[.int .u32 0, .int .i64 4]) ∧ Fr (fun _ => False) w w' := by
  have hF := RWhole_some h hl hi e
  obtain ⟨h1, h2⟩ := whl_some hi e
  obtain ⟨sv, iv, hb⟩ := h.ob x h1
  have hc4 := hb.c2
  rw [ht] at hc4
  have hc1 := h.c0
  have HF := hid hF
  clear h hi hF e h1 h2 hb ht hl
  go_enter Try.func38, Try.ntmps38
  go_wp2_with fail
  refine HF.out.mono ?_
  rintro e w1 ⟨rfl, rfl⟩
  go_wp2
  go_quiet (fail)
  go_wp2
  go_ret2
  exact ⟨rfl, (Fr.refl _ _).drewN _⟩
theorem RUp_ok (h : RhW w p pa Sa A F B top L lv) (hl : L.length ≤ 1000000) (hi : HIn top L) (htop : top ≤ 4294967295) {hd : Int} {x : Ob} (e : whl L hd = some x) (ht : x.count ≠ top) :
    Calls Try.prog 38 #[.pointer (some ⟨p, 0, none⟩), .int .u64 hd] w fun e w' => e = .returned (.tuple #[.int .u32 (x.count + 1), .int .i64 0]) ∧ RhW w' p pa Sa A F B top (Go.Proofs.Ytmampaglemleoaa.setc L x.h (x.count + 1)) lv ∧ Fr (fun k => F k = (x.h, 0)) w w' := by
  have hF := RWhole_some h hl hi e
  obtain ⟨h1, h2⟩ := whl_some hi e
  obtain ⟨sv, iv, hb⟩ := h.ob x h1
  have hc4 := hb.c2
  have hz4 := hb.fz 2
  have hfb := hb.fb
  have hz := (hi.nz x h1).1
  have hc1 := h.c0
  have hcb := hi.cnt x h1
  have hq : (x.count == top) = false := by simpa using ht
  have hwr : IntKind.u32.wrap (x.count + 1) = x.count + 1 := IntWalk.u32_in _ (by omega)
  have hpb : p ≠ B x.h := fun e => by have := h.fp; rw [e, hfb] at this; have := congrArg Prod.fst this; simp only at this; omega
  have HF := hid hF
  have HH := hid h
  have H1 := hid h1
  have HN := hid hi.nd
  have HFB := hid hfb
  have HZ := hid hz
  generalize x.count = n at *
  clear h hi hF e h1 h2 hb ht hcb htop hfb hl hz
  go_enter Try.func38, Try.ntmps38
  go_wp2_with fail
  refine HF.out.mono ?_
  rintro e w1 ⟨rfl, rfl⟩
  go_wp2
  go_quiet (fail)
  go_wp2
  go_ret2
  refine ⟨rfl, (HH.out.drewN _).setc HN.out H1.out HZ.out _, ((Fr.refl _ _).drewN _).setCell _ _ (fun _ => HFB.out)⟩
end
end Go.Proofs.Ytmampaglemleoaa
