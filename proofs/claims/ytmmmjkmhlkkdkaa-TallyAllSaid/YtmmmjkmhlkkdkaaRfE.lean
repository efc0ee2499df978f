/-
  The contracts of the plain twin's All and of same.
-/
import Derived.Test.YtmmmjkmhlkkdkaaRfD
import Derived.Laws.StructEq
import Derived.LaidEql
namespace Go.Proofs.Ytmmmjkmhlkkdkaa
open Go.ChangeShapes Go.WideShapes Go.ChangeAt Go.RowKit Go.Maps Go.Shelf

theorem nz_take {R : TM} {i : Nat} {x : Int × Int} (hx : R[i]? = some x) : nz (R.take (i + 1)) = nz (R.take i) ++ (if 0 < x.2 then [x] else []) := by
  have hi := (List.getElem?_eq_some_iff.1 hx).1
  have e : R.take (i + 1) = R.take i ++ [R[i]] := by rw [List.take_succ_eq_append_getElem hi]
  have e2 : R[i] = x := (List.getElem?_eq_some_iff.1 hx).2
  rw [e, e2]
  unfold nz
  rw [List.filter_append]
  congr 1
  by_cases h : 0 < x.2 <;> simp [h]
def AllPost (w : World) (R : TM) (e : Ending) (w' : World) : Prop := ∃ v, e = .returned v ∧ w'.ownsRow w.heap.size 60 2 v (nz R).length ((nz R).flatMap encE) ∧ Below w.heap.size w w'
set_option maxHeartbeats 1000000 in
set_option maxRecDepth 100000 in
theorem RAll_any (w : World) (p : Nat) (lv : Value) (most : Int) (R : TM) (h : RfT w p lv most R) (hl : R.length ≤ 100000) : Calls Try.prog 10 #[.pointer (some ⟨p, 0, none⟩)] w (AllPost w R) := by
  obtain ⟨a, k, hlv⟩ : ∃ a k, lv = .slice a R.length k := by
    rcases h.shape with ⟨h1, h2⟩ | ⟨g, cap, h1, _⟩
    · subst h1; exact ⟨none, 0, h2⟩
    · exact ⟨_, _, h1⟩
  subst hlv
  obtain ⟨i0, hi, hz0, hz1, hz2⟩ := info60'
  have hi' := hid hi
  have hz0' := hid hz0
  have hz1' := hid hz1
  have hz2' := hid hz2
  have H := hid h
  obtain ⟨n, hn⟩ : ∃ n, n = R.length := ⟨_, rfl⟩
  rw [← hn] at hl
  have HN := hid hn
  clear hi hz0 hz1 hz2 h hn
  go_enter Try.func10, Try.ntmps10
  go_wp2
  go_loopw [3, 4] (fun v i wr => ∃ q : Nat, q ≤ n ∧ i = .int .i64 q ∧ RowKit.Hid (wr.ownsRow w.heap.size 60 2 v (nz (R.take q)).length ((nz (R.take q)).flatMap encE)) ∧ RowKit.Hid (Below w.heap.size w wr)) (fun _ i _ => n - (intOf i).toNat)
  case atStart => exact ⟨0, Nat.zero_le _, rfl, hid (World.ownsRow_nil _ _ _ _), hid (Below.refl _ _)⟩
  case round =>
    obtain ⟨q, hq, rfl, HRow, HB⟩ := hrel
    have hwr := H.out.fr (fp := fun _ => False) (w' := wr)
    have h1 : RfT wr p (.slice a R.length k) most R := by
      refine ⟨?_, ?_⟩
      · rw [HB.out.block p H.out.lt]; exact H.out.hp
      · exact (Fr.mk (fp := fun j => w.heap.size ≤ j) HB.out.os HB.out.tape HB.out.output HB.out.size (fun k hk _ => HB.out.block k hk)).owns H.out.row (fun j hj => by have := (H.out.row.lt j hj).2; omega)
    have c1 := h1.c1
    rw [← HN.out] at c1
    have hnl : (nz (R.take q)).length ≤ q := by
      have h1 : (nz (R.take q)).length ≤ (R.take q).length := List.length_filter_le _ _
      have h2 : (R.take q).length ≤ q := List.length_take_le _ _
      omega
    by_cases hql : q < n
    · have hqR : q < R.length := by rw [← HN.out]; exact hql
      have hx : R[q]? = some R[q] := List.getElem?_eq_getElem hqR
      generalize R[q] = x at hx
      have hnz := nz_take hx
      obtain ⟨g, hg⟩ : ∃ g, a = some ⟨g, 0, none⟩ := by
        rcases h1.shape with ⟨e, _⟩ | ⟨g, cap, e, _⟩
        · subst e; simp at hqR
        · simp only [Value.slice.injEq] at e; exact ⟨g, e.1⟩
      subst hg
      obtain ⟨a0, a1⟩ := h1.at hx
      obtain ⟨va, vk, hv⟩ : ∃ a' k', u3 = .slice a' (nz (R.take q)).length k' := by
        rcases HRow.out.2 with ⟨q1, q2⟩ | ⟨g', cap', _, q1, _⟩
        · exact ⟨none, 0, by rw [q1, q2]⟩
        · exact ⟨_, cap', q1⟩
      subst hv
      obtain ⟨m, hm⟩ : ∃ m, m = (nz (R.take q)).length := ⟨_, rfl⟩
      have HR := HRow.out
      rw [← hm] at HR hnl ⊢
      have HRow' := hid HR
      have HM := hid hm
      have HX := hid hx
      have HNZ := hid hnz
      clear h1 hx hnz HR hm HRow hwr hqR
      by_cases hp : 0 < x.2
      · have hd : decide (0 < x.2) = true := by simpa using hp
        go_wp2_with (at_builtin; refine wpList_append_lies _ (o := ⟨some 32, _, _, _, _, _⟩) rfl (.tmp 23) (.tmp 31) 27 rfl w.heap.size 60 i0 (.agg #[.int .u64 0, .int .u32 0]) 2 16 Try.underlying27 hi'.out hz0'.out hz1'.out hz2'.out rfl (by decide) (.slice va m vk) m _ rfl (HRow'.out.alloc _) ⟨wr.heap.size, 0, none⟩ 1 1 [.int .u64 x.1, .int .u32 x.2] rfl rfl (World.news_of_block (heap_alloc_new wr _)) (by simp [Value.oneCell']) (by decide) (by unfold maxLen; omega) (by omega) (by have := HB.out.size; simp; omega) (wr.heap.size + 1) (by simp) ?_; intro g5 k5 w5 hown5 hgrow5 hat5 hlt5; have HO5 := hid hown5; have HG5 := hid hgrow5; clear hown5 hgrow5 hat5)
        go_roundw
        case rel =>
          refine ⟨q + 1, by omega, by go_num, hid ?_, hid ((HB.out.alloc HB.out.size _).grown HG5.out (by have := HB.out.size; simp; omega) (fun j hj => (HRow'.out.lt j hj).1))⟩
          rw [HNZ.out, if_pos hp, List.length_append, List.flatMap_append, ← HM.out]
          simpa [encE] using HO5.out
        case measure => simp [intOf]; omega
      · have hd : decide (0 < x.2) = false := by simpa using hp
        go_wp2
        go_roundw
        case rel =>
          refine ⟨q + 1, by omega, by go_num, hid ?_, HB⟩
          rw [HNZ.out, if_neg hp, List.append_nil, ← HM.out]
          exact HRow'.out
        case measure => simp [intOf]; omega
    · obtain rfl : q = n := by omega
      have ht : R.take q = R := List.take_of_length_le (by rw [← HN.out]; exact Nat.le_refl _)
      have HRr := HRow.out
      rw [ht] at HRr
      have HRow' := hid HRr
      clear h1 hwr ht HRr
      go_wp2
      go_ret
      exact ⟨_, rfl, HRow'.out, HB.out⟩

/-- A slice that reads as a list. -/
def Row2 (w : World) (v : Value) (l : TM) : Prop := ∃ a k, v = .slice a l.length k ∧ ∀ q x, l[q]? = some x → ∃ g, a = some ⟨g, 0, none⟩ ∧ w.cell? ⟨g, q * 2, none⟩ = some (.int .u64 x.1) ∧ w.cell? ⟨g, q * 2 + 1, none⟩ = some (.int .u32 x.2)
theorem Row2.of_owns {w : World} {B : Nat} {v : Value} {l : TM} (h : w.ownsRow B 60 2 v l.length (l.flatMap encE)) : Row2 w v l := by
  rcases h.2 with ⟨h1, h2⟩ | ⟨g, cap, cur, h1, _⟩
  · have : l = [] := List.eq_nil_of_length_eq_zero h2
    subst this
    exact ⟨none, 0, h1, fun q x hx => by cases hx⟩
  · subst h1
    refine ⟨_, cap, rfl, fun q x hx => ⟨g, rfl, ?_, ?_⟩⟩
    · have hlt := (List.getElem?_eq_some_iff.1 hx).1
      exact (h.cellAt (q * 2) (by omega)).trans (encE_at l q 0 x hx (by omega))
    · have hlt := (List.getElem?_eq_some_iff.1 hx).1
      exact (h.cellAt (q * 2 + 1) (by omega)).trans (encE_at l q 1 x hx (by omega))
theorem Row2.take {w : World} {a : Option Addr} {n k : Nat} {l : TM} (h : Row2 w (.slice a n k) l) (m : Nat) (hm : m ≤ l.length) : Row2 w (.slice a m k) (l.take m) := by
  obtain ⟨a', k', e, h⟩ := h
  simp only [Value.slice.injEq] at e
  obtain ⟨rfl, _, rfl⟩ := e
  refine ⟨a, k, by rw [List.length_take, Nat.min_eq_left hm], fun q x hx => h q x ?_⟩
  rw [List.getElem?_take] at hx
  split at hx
  · exact hx
  · cases hx
theorem Row2.fr {w w' : World} {v : Value} {l : TM} (h : Row2 w v l) (hf : Fr (fun _ => False) w w') : Row2 w' v l := by
  obtain ⟨a, k, e, h⟩ := h
  refine ⟨a, k, e, fun q x hx => ?_⟩
  obtain ⟨g, h1, h2, h3⟩ := h q x hx
  have hg := hf.block g (World.block_lt_of_cell? w _ h2) (fun h => h)
  exact ⟨g, h1, (World.cell?_of_block hg).trans h2, (World.cell?_of_block hg).trans h3⟩
theorem neq60 (x y : Int) (W : World) : (binOp .neq 60 (.agg #[.int .u64 x, .int .u32 y]) (.agg #[.int .u64 x, .int .u32 y])).run Try.prog W = .ok (.bool false) W := by
  have hS : Try.prog.underlying 60 = some (.struct (Try.prog.fieldsOf 60)) := by kernel_rfl
  have hp : Try.prog.stoodInHeld 60 = false := by kernel_rfl
  have u1 := Try.underlying31
  have a1 := Try.isAgg31
  have z1 := Try.sizeOf31
  have u2 := Try.underlying22
  have a2 := Try.isAgg22
  have z2 := Try.sizeOf22
  rw [run_neq_struct, show (10000 : Nat) = 9999 + 1 from rfl, run_equalIn_agg W 9999 60 _ _ hS hp]
  simp only [Program.fieldsOf, Try.underlying60]
  go_simp
theorem guard60 (op : BinOp) (a b : Operand) (xs ys : Array Value) (W : World) : (eqGuard op 60 a b (.agg xs) (.agg ys)).run Try.prog W = .ok () W := run_eqGuard_agg W op 60 a b xs ys (by kernel_rfl)
set_option maxHeartbeats 1000000 in
set_option maxRecDepth 100000 in
theorem same_any (w : World) (va vb : Value) (l : TM) (ha : Row2 w va l) (hb : Row2 w vb l) (hl : l.length ≤ 100000) : Calls Try.prog 12 #[va, vb] w fun e w' => e = .returned (.bool true) ∧ Fr (fun _ => False) w w' := by
  obtain ⟨aa, ka, rfl, ha⟩ := ha
  obtain ⟨ab, kb, rfl, hb⟩ := hb
  obtain ⟨n, hn⟩ : ∃ n, n = l.length := ⟨_, rfl⟩
  rw [← hn] at hl ⊢
  have HN := hid hn
  have HA := hid ha
  have HB := hid hb
  clear hn ha hb
  go_enter Try.func12, Try.ntmps12
  go_wp2
  go_loopw [5] (fun i wr => ∃ q : Nat, q ≤ n ∧ i = .int .i64 q ∧ RowKit.Hid (Fr (fun _ => False) w wr)) (fun i _ => n - (intOf i).toNat)
  case atStart => exact ⟨0, Nat.zero_le _, rfl, hid (Fr.refl _ _)⟩
  case round =>
    obtain ⟨q, hq, rfl, HF⟩ := hrel
    by_cases hql : q < n
    · have hx : l[q]? = some (l[q]'(by rw [← HN.out]; exact hql)) := List.getElem?_eq_getElem _
      generalize (l[q]'(by rw [← HN.out]; exact hql)) = x at hx
      obtain ⟨ga, rfl, x0, x1⟩ := HA.out q x hx
      obtain ⟨gb, rfl, y0, y1⟩ := HB.out q x hx
      have ea := HF.out.block ga (World.block_lt_of_cell? w _ x0) (fun h => h)
      have eb := HF.out.block gb (World.block_lt_of_cell? w _ y0) (fun h => h)
      have x0' := (World.cell?_of_block ea).trans x0
      have x1' := (World.cell?_of_block ea).trans x1
      have y0' := (World.cell?_of_block eb).trans y0
      have y1' := (World.cell?_of_block eb).trans y1
      have hq1 := neq60 x.1 x.2
      have hq2 := guard60
      clear hx x0 x1 y0 y1 ea eb
      go_wp2
      go_quiet (fail)
      go_wp2
      go_roundw
      case rel => exact ⟨q + 1, by omega, by go_num, hid (HF.out.drewN _)⟩
      case measure => simp [intOf]; omega
    · obtain rfl : q = n := by omega
      go_wp2
      go_ret
      exact ⟨rfl, HF.out⟩
end Go.Proofs.Ytmmmjkmhlkkdkaa
