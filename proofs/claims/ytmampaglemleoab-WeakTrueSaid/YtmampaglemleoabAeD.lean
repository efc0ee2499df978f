/-
  An arena's Drop where the place may be taken again.
-/
import Derived.Test.YtmampaglemleoabAeC
import Derived.Deep.Cut
namespace Go.Proofs.Ytmampaglemleoab
open Go.ChangeShapes Go.WideShapes Go.ChangeAt Go.RowKit

set_option maxHeartbeats 1000000 in
set_option maxRecDepth 100000 in
theorem Drop_again (S : Nat → Prop) (w : World) (p : Nat) (A : Ar) (i : Nat) (s : Spot) (hd : Int) (h : InS S w p A) (hf : Found A hd i s) (hw : s.g < 4294967295) :
    Calls Try.prog 39 #[.pointer (some ⟨p, 0, none⟩), .int .u64 hd] w fun e w' => e = .returned (.tuple #[encE s.x, .int .i64 0]) ∧ InS (ext S w w') w' p (dropAt A i s) ∧ Fr S w w' := by
  obtain ⟨cv, fv, h1, h2, h3, h4, h5, h6⟩ := h
  obtain ⟨f1, f2, f3⟩ := hf
  obtain ⟨b, k, rfl⟩ := h1.form f1
  have hg := h2.gen i s f1
  have hff := find_yes w p fv A _ i b k s h1 f1 f2 (Nat.le_trans h2.len h2.m2) hg.2
  have hlt : i < A.L.length := (List.getElem?_eq_some_iff.1 f1).1
  have hl := Nat.le_trans h2.len h2.m2
  have hfl := h2.fl
  have ho := drop_ok h2 f1 f2
  have hcn := drop_cnt f1 f2
  have hcl := cnt_le A.L
  obtain ⟨c, hc⟩ : ∃ c, cnt (dropAt A i s).L = c := ⟨_, rfl⟩
  rw [hc] at hcn
  rw [← hcn] at h1 hcl hfl
  have k1 := h1.setL (s' := ⟨0, s.g, s.t⟩) rfl f1 0 (.pointer none) (by omega) rfl
  have k2 := k1.setL (s := ⟨0, s.g, s.t⟩) (s' := ⟨0, s.g, false⟩) (by simp) (List.getElem?_set_self hlt) 2 (.bool false) (by omega) rfl
  have k3 := k2.setc c
  simp only [List.set_set] at k3
  have k4 := k3.setL (s := ⟨0, s.g, false⟩) (s' := ⟨0, s.g + 1, false⟩) (by simp) (List.getElem?_set_self hlt) 1 (.int .u32 ((s.g : Int) + 1)) (by omega) (by simp [Spot.cellsE])
  simp only [List.set_set] at k4
  have hfr : Fr S w ((((w.setCell ⟨b, i * 3 + 0, none⟩ (.pointer none)).setCell ⟨b, i * 3 + 2, none⟩ (.bool false)).setCell ⟨p, 4, none⟩ (.int .i64 c)).setCell ⟨b, i * 3 + 1, none⟩ (.int .u32 ((s.g : Int) + 1))) :=
    ((((Fr.refl _ _).setCell _ _ (fun _ => h4 b rfl)).setCell _ _ (fun _ => h4 b rfl)).setCell _ _ (fun _ => h3)).setCell _ _ (fun _ => h4 b rfl)
  have g0 := h1.at f1 rfl 0 (by omega)
  have g1 := h1.at f1 rfl 1 (by omega)
  have g2 := h1.at f1 rfl 2 (by omega)
  have c3 := h1.c3
  have c4 := h1.c4
  have z3 := h1.fz 3
  have z4 := h1.fz 4
  simp only [Spot.cellsE, List.getElem?_cons_succ, List.getElem?_cons_zero] at g0 g1 g2
  rw [Nat.add_zero] at g0
  have z0 := h1.hc.frozenAt (i * 3)
  have z1 := h1.hc.frozenAt (i * 3 + 1)
  have z2 := h1.hc.frozenAt (i * 3 + 2)
  have hbp : b ≠ p := fun e => h1.d1 (by rw [e]; rfl)
  have hpb : p ≠ b := Ne.symm hbp
  have hdr : dropAt A i s = { A with L := A.L.set i ⟨0, s.g + 1, false⟩, F := A.F ++ [i] } := by unfold dropAt; rw [if_pos hw]
  have hsg : decide ((s.g : Int) < 4294967295) = true := by simp; omega
  have hsp := fun W => Split_any (hand i s.g) W (by unfold hand; omega) (by unfold hand; omega)
  have e1 : hand i s.g % 4294967296 - 1 = i := by unfold hand; omega
  have e2 : hand i s.g / 4294967296 = s.g := by unfold hand; omega
  rw [e1, e2, ← f3] at hsp
  rw [← f3] at hff
  obtain ⟨i0, hi, hz0, hz1, hz2⟩ := info_parts infoNE
  have hi' := hid hi
  have hz0' := hid hz0
  have hz1' := hid hz1
  have hz2' := hid hz2
  have hplt := h1.lt
  have hF9 : A.F.length ≤ 65536 := by omega
  have hm9 : A.F.length + 1 ≤ maxLen := by unfold maxLen; omega
  have K4 := hid k4
  have HO := hid ho
  have HC := hid hc
  have HD := hid hdr
  have HR := hid hfr
  have HSP := hid hsp
  clear hi hz0 hz1 hz2 f3 k1 k2 k3 k4 ho hc hdr hfr h1 hcn f1 f2 e1 e2 hsp
  have hwr : IntKind.u32.wrap ((s.g : Int) + 1) = (s.g : Int) + 1 := IntWalk.u32_in _ (by omega)
  have HW := hid hw
  have H4 := hid h4
  have H5 := hid h5
  have H6 := hid h6
  have HFL := hid hfl
  have HH2 := hid h2
  clear hw h4 h5 h6 hfl h2 hg hlt
  generalize s.g = sg at *
  generalize s.x = sx at *
  go_enter Try.func39, Try.ntmps39
  go_wp2_with fail
  refine hff.mono ?_
  rintro e w1 ⟨rfl, rfl⟩
  go_upto_region 11 with (refine (HSP.out _).mono ?_; rintro e w1 ⟨rfl, rfl⟩)
  obtain ⟨w4, hw4⟩ : ∃ w4, w4 = (((w.setCell ⟨b, i * 3, none⟩ (.pointer none)).setCell ⟨b, i * 3 + 2, none⟩ (.bool false)).setCell ⟨p, 4, none⟩ (.int .i64 c)).setCell ⟨b, i * 3 + 1, none⟩ (.int .u32 ((sg : Int) + 1)) := ⟨_, rfl⟩
  rw [← hw4]
  have k4 : ArW w4 p (.slice (some ⟨b, 0, none⟩) A.L.length k) fv { A with L := A.L.set i ⟨0, sg + 1, false⟩ } c := by rw [hw4]; exact K4.out
  have hfr4 : Fr S w w4 := by rw [hw4]; exact HR.out
  have HSZ := hid (show w4.heap.size = w.heap.size by rw [hw4]; simp)
  have C3 := k4.c3
  have Z3 := k4.fz 3
  have P4 := k4.lt
  have D2 := k4.d2
  have K5 := hid k4
  have R4 := hid hfr4
  clear hw4 k4 hfr4 K4 HR g0 g1 g2 c3 c4 z0 z1 z2 z3 z4 hwr hff hsg HSP
  go_wp2_with (at_builtin; go_loud (refine wpList_append_lies _ (o := ⟨some 59, _, _, _, _, _⟩) rfl (.tmp 56) (.tmp 58) 73 rfl 0 3 i0 (.int .i64 0) 1 8 Try.underlying73 hi'.out hz0'.out hz1'.out hz2'.out rfl (by decide) fv A.F.length (rowF A.F) rfl (K5.out.hf.alloc _) ⟨w4.heap.size, 0, none⟩ 1 1 [.int .i64 i] rfl rfl (one_news _ _ _ _ rfl) (by simp [Value.oneCell']) (by decide) hm9 (by omega) (Nat.zero_le _) (w4.heap.size + 1) (by simp) ?_; intro g5 k5 w5 hown5 hgrow5 hat5 hlt5; have hb5 : w5.heap[p]? = w4.heap[p]? := (by rw [hgrow5.block p (by simp; omega) (fun e => D2 e.symm)]; exact Below.heap_alloc _ _ _ P4); have c35 : w5.cell? ⟨p, 3, none⟩ = some fv := (World.cell?_of_block hb5).trans C3; have z35 : w5.frozen? ⟨p, 3, none⟩ = false := (World.frozen?_of_block hb5).trans Z3; have HO5 := hid hown5; have HG5 := hid hgrow5; have HA5 := hid hat5; have HB5 := hid hb5; clear hown5 hgrow5 hat5 hb5))
  go_ret2
  have hsz := HSZ.out
  have hown : ∀ j, (Value.slice (some ⟨g5, 0, none⟩) (A.F.length + 1) k5).ownBlock = some j → fv.ownBlock = some j ∨ w4.heap.size ≤ j := fun j hj => by
    simp [Value.ownBlock] at hj
    subst hj
    rcases HA5.out with e | e
    · exact .inl e
    · exact .inr (by omega)
  have hg5p : g5 ≠ p := fun e => by
    rcases hown p (by simp [Value.ownBlock, e]) with e | e
    · exact D2 e
    · omega
  have hfr45 : Fr (fun j => j = p ∨ fv.ownBlock = some j) w4 (w5.setCell ⟨p, 3, none⟩ (.slice (some ⟨g5, 0, none⟩) (A.F.length + 1) k5)) :=
    (((Fr.refl _ _).alloc _).grown HG5.out (fun j hj _ => .inr hj)).setCell _ _ (fun _ => .inl rfl)
  have hp5 := K5.out.hp
  rw [← HB5.out] at hp5
  have hnew := K5.out.newf (A.F ++ [i]) hfr45 (c' := c) (fv' := .slice (some ⟨g5, 0, none⟩) (A.F.length + 1) k5) (by rw [heap_setCell_same _ _ _ _ _ _ hp5]; rfl)
    (by
      have e1 : rowF (A.F ++ [i]) = rowF A.F ++ [.int .i64 i] := by simp [rowF]
      rw [List.length_append, e1]
      exact ownsRow_setCell_other HO5.out (by simp [Value.ownBlock]; exact hg5p) _) hown
  have hfr : Fr S w (w5.setCell ⟨p, 3, none⟩ (.slice (some ⟨g5, 0, none⟩) (A.F.length + 1) k5)) := R4.out.trans hfr45 (fun j hj _ => by
    rcases hj with rfl | hj
    · exact h3
    · exact H5.out j hj)
  refine ⟨rfl, ⟨_, _, by rw [HC.out, HD.out]; exact hnew, HO.out, .inl h3, fun j hj => .inl (H4.out j hj), fun j hj => ?_, fun j hj => ?_⟩, hfr⟩
  · rcases hown j hj with e | e
    · exact .inl (H5.out j e)
    · exact .inr ⟨by omega, (hnew.hf.lt j hj).2⟩
  · rcases hj with hj | hj
    · exact Nat.lt_of_lt_of_le (H6.out j hj) hfr.size
    · exact hj.2
end Go.Proofs.Ytmampaglemleoab
