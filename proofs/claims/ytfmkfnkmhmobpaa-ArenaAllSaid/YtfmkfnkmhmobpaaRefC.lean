/-
  The contracts of the plain twin's Drop and All.
-/
import Derived.Test.YtfmkfnkmhmobpaaRefB
namespace Go.Proofs.Ytfmkfnkmhmobpaa
open Go.ChangeShapes Go.WideShapes Go.ChangeAt Go.RowKit

theorem spot_of {A : Ar} {R : List RSpot} (hL : A.L = R.map toSpot) {i : Nat} {s : Spot} (hs : A.L[i]? = some s) : ∃ r, R[i]? = some r ∧ toSpot r = s := by
  rw [hL, List.getElem?_map] at hs
  cases hq : R[i]? with
  | none => rw [hq] at hs; cases hs
  | some r => rw [hq] at hs; exact ⟨r, rfl, Option.some.inj hs⟩
def RDropPost (S : Nat → Prop) (w : World) (p : Nat) (A' : Ar) (e : Ending) (w' : World) : Prop := ∃ v, e = .returned v ∧ RInS (ext S w w') w' p A' ∧ Fr S w w'
set_option maxHeartbeats 1000000 in
theorem RDrop_worn (S : Nat → Prop) (w : World) (p : Nat) (A : Ar) (i : Nat) (s : Spot) (h : RInS S w p A) (hs : A.L[i]? = some s) (ht : s.t = true) (hw : ¬ s.g < 4294967295) :
    Calls Try.prog 27 #[.pointer (some ⟨p, 0, none⟩), .int .i64 i] w (RDropPost S w p (dropAt A i s)) := by
  obtain ⟨cv, fv, R, h1, h2, h3, h4, h5, h6⟩ := h
  have hgen := h2.gen i s hs
  have hok := drop_ok h2 hs ht
  obtain ⟨r, hr, hrs⟩ := spot_of h1.hR hs
  have hrg : (r.g : Int) = 4294967295 := by have : r.g = s.g := by rw [← hrs]; rfl
                                            omega
  obtain ⟨b, k, hcv⟩ := h1.form hr
  subst hcv
  have hrlt : i < R.length := (List.getElem?_eq_some_iff.1 hr).1
  have hRl : R.length ≤ 65536 := by have := h1.len; have := h2.len; have := h2.m2; omega
  have c2 := h1.c2
  have g0 := h1.at hr rfl 0 (by omega)
  have g1 := h1.at hr rfl 1 (by omega)
  have g2 := h1.at hr rfl 2 (by omega)
  simp only [RSpot.cells, List.getElem?_cons_succ, List.getElem?_cons_zero] at g0 g1 g2
  rw [Nat.add_zero] at g0
  have z0 := h1.hc.frozenAt (i * 3)
  have z2 := h1.hc.frozenAt (i * 3 + 2)
  have hbp : b ≠ p := fun e => h1.d1 (by rw [e]; rfl)
  have hpb : p ≠ b := Ne.symm hbp
  have r2 := h1.setL (s' := ⟨0, r.g, r.s⟩) rfl hr 0 (.int .i64 0) (by omega) rfl
  have r3 := r2.setL (s := ⟨0, r.g, r.s⟩) (s' := ⟨0, r.g, 2⟩) (by simp) (List.getElem?_set_self hrlt) 2 (.int .i64 2) (by omega) rfl
  have hdr : dropAt A i s = { A with L := ((R.set i ⟨0, r.g, r.s⟩).set i ⟨0, r.g, 2⟩).map toSpot } := by
    unfold dropAt
    rw [if_neg hw, List.set_set, List.map_set, h1.hR, ← hrs]; rfl
  have hfr : Fr S w ((w.setCell ⟨b, i * 3 + 0, none⟩ (.int .i64 0)).setCell ⟨b, i * 3 + 2, none⟩ (.int .i64 2)) :=
    ((Fr.refl _ _).setCell _ _ (fun _ => h4 b rfl)).setCell _ _ (fun _ => h4 b rfl)
  have R3 := hid r3
  have HD := hid hdr
  have HR := hid hfr
  have HO := hid hok
  have H4 := hid h4
  have H5 := hid h5
  have H6 := hid h6
  rw [hrg] at g1
  clear r2 r3 hdr hfr hok h4 h5 h6 h1 h2 hs ht hw hr hrs hgen
  generalize R.length = nr at *
  clear hrg
  go_enter Try.func27, Try.ntmps27
  go_wp2
  refine bodyPost_ret (results_none rfl _ _ _) rfl ?_
  refine ⟨_, rfl, ⟨.slice (some ⟨b, 0, none⟩) nr k, fv, (R.set i ⟨0, r.g, r.s⟩).set i ⟨0, r.g, 2⟩, by rw [HD.out]; exact R3.out, HO.out, .inl h3, fun q hq => .inl (H4.out q hq), fun q hq => .inl (H5.out q hq), fun q hq => ?_⟩, HR.out⟩
  rcases hq with hq | hq
  · exact Nat.lt_of_lt_of_le (H6.out q hq) HR.out.size
  · exact hq.2

set_option maxHeartbeats 1000000 in
set_option maxRecDepth 100000 in
theorem RDrop_again (S : Nat → Prop) (w : World) (p : Nat) (A : Ar) (i : Nat) (s : Spot) (h : RInS S w p A) (hs : A.L[i]? = some s) (ht : s.t = true) (hw : s.g < 4294967295) :
    Calls Try.prog 27 #[.pointer (some ⟨p, 0, none⟩), .int .i64 i] w (RDropPost S w p (dropAt A i s)) := by
  obtain ⟨cv, fv, R, h1, h2, h3, h4, h5, h6⟩ := h
  have hok := drop_ok h2 hs ht
  obtain ⟨r, hr, hrs⟩ := spot_of h1.hR hs
  have hrg : r.g = s.g := by rw [← hrs]; rfl
  obtain ⟨b, k, hcv⟩ := h1.form hr
  subst hcv
  have hrlt : i < R.length := (List.getElem?_eq_some_iff.1 hr).1
  have hRl : R.length ≤ 65536 := by have := h1.len; have := h2.len; have := h2.m2; omega
  have hFl : A.F.length ≤ 65536 := by have := h2.fl; have := h2.len; have := h2.m2; omega
  have c2 := h1.c2
  have c3 := h1.c3
  have z3 := h1.fz 3
  have g0 := h1.at hr rfl 0 (by omega)
  have g1 := h1.at hr rfl 1 (by omega)
  have g2 := h1.at hr rfl 2 (by omega)
  simp only [RSpot.cells, List.getElem?_cons_succ, List.getElem?_cons_zero] at g0 g1 g2
  rw [Nat.add_zero] at g0
  have z0 := h1.hc.frozenAt (i * 3)
  have z1 := h1.hc.frozenAt (i * 3 + 1)
  have z2 := h1.hc.frozenAt (i * 3 + 2)
  have hbp : b ≠ p := fun e => h1.d1 (by rw [e]; rfl)
  have hpb : p ≠ b := Ne.symm hbp
  have r2 := h1.setL (s' := ⟨0, r.g, r.s⟩) rfl hr 0 (.int .i64 0) (by omega) rfl
  have r3 := r2.setL (s := ⟨0, r.g, r.s⟩) (s' := ⟨0, r.g, 0⟩) (by simp) (List.getElem?_set_self hrlt) 2 (.int .i64 0) (by omega) rfl
  have r4 := r3.setL (s := ⟨0, r.g, 0⟩) (s' := ⟨0, r.g + 1, 0⟩) (by simp) (List.getElem?_set_self (by simpa using hrlt)) 1 (.int .u32 ((r.g : Int) + 1)) (by omega) (by simp [RSpot.cells])
  have hdr : dropAt A i s = { A with L := (((R.set i ⟨0, r.g, r.s⟩).set i ⟨0, r.g, 0⟩).set i ⟨0, r.g + 1, 0⟩).map toSpot, F := A.F ++ [i] } := by
    unfold dropAt
    rw [if_pos hw, List.set_set, List.set_set, List.map_set, h1.hR, ← hrs]; rfl
  have hfr : Fr S w (((w.setCell ⟨b, i * 3 + 0, none⟩ (.int .i64 0)).setCell ⟨b, i * 3 + 2, none⟩ (.int .i64 0)).setCell ⟨b, i * 3 + 1, none⟩ (.int .u32 ((r.g : Int) + 1))) :=
    (((Fr.refl _ _).setCell _ _ (fun _ => h4 b rfl)).setCell _ _ (fun _ => h4 b rfl)).setCell _ _ (fun _ => h4 b rfl)
  have hb : ((r.g : Int) == 4294967295) = false := by simp; omega
  have hwr : IntKind.u32.wrap ((r.g : Int) + 1) = (r.g : Int) + 1 := IntWalk.u32_in _ (by omega)
  have hm9 : A.F.length + 1 ≤ maxLen := by unfold maxLen; omega
  obtain ⟨i0, hi, hz0, hz1, hz2⟩ := info_parts info3
  have hi' := hid hi
  have hz0' := hid hz0
  have hz1' := hid hz1
  have hz2' := hid hz2
  have R4 := hid r4
  have HD := hid hdr
  have HR := hid hfr
  have HO := hid hok
  have H4 := hid h4
  have H5 := hid h5
  have H6 := hid h6
  clear hi hz0 hz1 hz2 r2 r3 r4 hdr hfr hok h4 h5 h6 h1 h2 hs ht hw hr hrs hrg
  generalize hnr : R.length = nr at *
  clear hnr
  generalize hrgg : r.g = rg at *
  have HRG := hid hrgg
  clear hrgg
  go_enter Try.func27, Try.ntmps27
  go_upto_region 5 with fail
  obtain ⟨w4, hw4⟩ : ∃ w4, w4 = ((w.setCell ⟨b, i * 3, none⟩ (.int .i64 0)).setCell ⟨b, i * 3 + 2, none⟩ (.int .i64 0)).setCell ⟨b, i * 3 + 1, none⟩ (.int .u32 ((rg : Int) + 1)) := ⟨_, rfl⟩
  rw [← hw4]
  have k4 : RefW w4 p (.slice (some ⟨b, 0, none⟩) nr k) fv { A with L := (((R.set i ⟨0, rg, r.s⟩).set i ⟨0, rg, 0⟩).set i ⟨0, rg + 1, 0⟩).map toSpot } (((R.set i ⟨0, rg, r.s⟩).set i ⟨0, rg, 0⟩).set i ⟨0, rg + 1, 0⟩) := by rw [hw4]; exact R4.out
  have hfr4 : Fr S w w4 := by rw [hw4]; exact HR.out
  have HSZ := hid (show w4.heap.size = w.heap.size by rw [hw4]; simp)
  have C3 := k4.c3
  have Z3 := k4.fz 3
  have P4 := k4.lt
  have D2 := k4.d2
  have K5 := hid k4
  have F4 := hid hfr4
  clear hw4 k4 hfr4 R4 HR g0 g1 g2 c2 c3 z0 z1 z2 z3 hwr hb
  go_wp2_with (at_builtin; refine wpList_append_lies _ (o := ⟨some 52, _, _, _, _, _⟩) rfl (.tmp 49) (.tmp 51) 44 rfl 0 3 i0 (.int .i64 0) 1 8 Try.underlying44 hi'.out hz0'.out hz1'.out hz2'.out rfl (by decide) fv A.F.length (rowF A.F) rfl (K5.out.hf.alloc _) ⟨w4.heap.size, 0, none⟩ 1 1 [.int .i64 i] rfl rfl (one_news _ _ _ _ rfl) (by simp [Value.oneCell']) (by decide) hm9 (by omega) (Nat.zero_le _) (w4.heap.size + 1) (by simp) ?_; intro g5 k5 w5 hown5 hgrow5 hat5 hlt5; have hb5 : w5.heap[p]? = w4.heap[p]? := (by rw [hgrow5.block p (by simp; omega) (fun e => D2 e.symm)]; exact Below.heap_alloc _ _ _ P4); have c35 : w5.cell? ⟨p, 3, none⟩ = some fv := (World.cell?_of_block hb5).trans C3; have z35 : w5.frozen? ⟨p, 3, none⟩ = false := (World.frozen?_of_block hb5).trans Z3; have HO5 := hid hown5; have HG5 := hid hgrow5; have HA5 := hid hat5; have HB5 := hid hb5; clear hown5 hgrow5 hat5 hb5)
  refine bodyPost_ret (results_none rfl _ _ _) rfl ?_
  have hsz := HSZ.out
  have hown : ∀ j, (Value.slice (some ⟨g5, 0, none⟩) (A.F.length + 1) k5).ownBlock = some j → fv.ownBlock = some j ∨ w4.heap.size ≤ j := fun j hj => by
    simp [Value.ownBlock] at hj
    subst hj
    rcases HA5.out with e | e
    · exact .inl e
    · exact .inr (by omega)
  have hg5p : g5 ≠ p := fun e => by
    rcases hown p (by simp [Value.ownBlock, e]) with e | e
    · exact D2 e
    · omega
  have hfr45 : Fr (fun j => j = p ∨ fv.ownBlock = some j) w4 (w5.setCell ⟨p, 3, none⟩ (.slice (some ⟨g5, 0, none⟩) (A.F.length + 1) k5)) :=
    (((Fr.refl _ _).alloc _).grown HG5.out (fun j hj _ => .inr hj)).setCell _ _ (fun _ => .inl rfl)
  have hp5 := K5.out.hp
  rw [← HB5.out] at hp5
  have hnew := K5.out.newf (A.F ++ [i]) hfr45 (fv' := .slice (some ⟨g5, 0, none⟩) (A.F.length + 1) k5) (by rw [heap_setCell_same _ _ _ _ _ _ hp5]; rfl)
    (by
      have e1 : rowF (A.F ++ [i]) = rowF A.F ++ [.int .i64 i] := by simp [rowF]
      rw [List.length_append, e1]
      exact ownsRow_setCell_other HO5.out (by simp [Value.ownBlock]; exact hg5p) _) hown
  have hfr : Fr S w (w5.setCell ⟨p, 3, none⟩ (.slice (some ⟨g5, 0, none⟩) (A.F.length + 1) k5)) := F4.out.trans hfr45 (fun j hj _ => by
    rcases hj with rfl | hj
    · exact h3
    · exact H5.out j hj)
  have hdo := HO.out
  rw [HD.out] at hdo ⊢
  refine ⟨_, rfl, ⟨_, _, _, hnew, hdo, .inl h3, fun j hj => .inl (H4.out j hj), fun j hj => ?_, fun j hj => ?_⟩, hfr⟩
  · rcases hown j hj with e | e
    · exact .inl (H5.out j e)
    · exact .inr ⟨by omega, (hnew.hf.lt j hj).2⟩
  · rcases hj with hj | hj
    · exact Nat.lt_of_lt_of_le (H6.out j hj) hfr.size
    · exact hj.2

/-- The handles of what is taken, from a place on. -/
def allF : Nat → List Spot → List Int
  | _, [] => []
  | k, s :: L => if s.t then hand k s.g :: allF (k + 1) L else allF (k + 1) L
theorem allF_snoc (k : Nat) (M : List Spot) (s : Spot) : allF k (M ++ [s]) = allF k M ++ (if s.t then [hand (k + M.length) s.g] else []) := by
  induction M generalizing k with
  | nil => simp [allF]
  | cons a M ih =>
    simp only [List.cons_append, allF, ih (k + 1), List.length_cons]
    have e : k + 1 + M.length = k + (M.length + 1) := by omega
    rw [e]
    cases a.t <;> simp
theorem allF_len (k : Nat) (M : List Spot) : (allF k M).length = cnt M := by
  induction M generalizing k with
  | nil => rfl
  | cons a M ih =>
    simp only [allF, cnt, List.filter_cons]
    have := ih (k + 1)
    simp only [cnt] at this
    cases a.t <;> simp [this]
end Go.Proofs.Ytfmkfnkmhmobpaa
