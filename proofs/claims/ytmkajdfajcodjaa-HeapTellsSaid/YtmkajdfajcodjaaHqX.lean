/- AeF AeI AeL HqW HpU HqX in one -/
import Derived.Test.YtmkajdfajcodjaaAeD
import Derived.Test.YtmkajdfajcodjaaRng
import Derived.Test.YtmkajdfajcodjaaMixG
import Derived.Test.YtmkajdfajcodjaaArP
import Derived.Test.YtmkajdfajcodjaaKT
import Derived.Test.YtmkajdfajcodjaaMemX
import Derived.Test.YtmkajdfajcodjaaHqU
import Derived.Test.YtmkajdfajcodjaaHpN
import Derived.Test.YtmkajdfajcodjaaHpE
namespace Go.Proofs.Ytmkajdfajcodjaa
open Go.ChangeShapes Go.WideShapes Go.ChangeAt Go.RowKit

theorem addr_block (a : Addr) (n : Nat) : (a.add n).block = a.block := by unfold Addr.add; split <;> rfl
theorem rowsE_nil (W : World) : (binOp .eql 126 (.slice none 0 0) (.slice none 0 0)).run Try.prog W = .ok (.bool true) W := by kernel_rfl
theorem rowsE_not (a : Addr) (n k : Nat) (W : World) : (binOp .eql 126 (.slice (some a) n k) (.slice none 0 0)).run Try.prog W = .ok (.bool false) W := by kernel_rfl
def ClonePostE (w : World) (n : Nat) (xs : List Value) (e : Ending) (w' : World) : Prop := ∃ v, e = .returned v ∧ w'.ownsRow w.heap.size 140 3 v n xs ∧ Below w.heap.size w w'
theorem CloneE_any (w : World) (B : Nat) (cv : Value) (n : Nat) (xs : List Value) (h : w.ownsRow B 140 3 cv n xs) (hn : n ≤ 65536) (h1 : ∀ u ∈ xs, u.oneCell' = true) :
    Calls Try.prog 72 #[cv] w (ClonePostE w n xs) := by
  rcases h.2 with ⟨rfl, rfl⟩ | ⟨g, cap, cur, rfl, hb, hg, hnc, hcm, hcs, htake⟩
  · have hx : xs = [] := List.eq_nil_of_length_eq_zero (by simpa using h.1)
    subst hx
    clear h
    have hq := rowsE_nil
    go_enter Try.func72, Try.ntmps72
    go_wp2
    go_ret
    exact ⟨_, rfl, World.ownsRow_nil _ _ _ _, Below.refl _ _⟩
  · have hcell := h.cells (g := g) rfl
    have hl := h.1
    obtain ⟨i0, hi, hz0, hz1, hz2⟩ := info_parts infoCE
    have hi' := hid hi
    have hz0' := hid hz0
    have hz1' := hid hz1
    have hz2' := hid hz2
    have HC := hid hcell
    have HL := hid hl
    have H1 := hid h1
    have hgl : g < w.heap.size := (Array.getElem?_eq_some_iff.1 hg).1
    clear hi hz0 hz1 hz2 hcell hl h1 h hg hcs htake hb hcm hnc
    go_enter Try.func72, Try.ntmps72
    have hq := rowsE_not
    have hnews : ∀ o : Obj, ∀ (j : Nat) (u : Value), xs[j]? = some u → (w.alloc o).cell? ((⟨g, 0, none⟩ : Addr).add j) = some u := fun o j u hu => by
      rw [World.cell?_of_block (Below.heap_alloc w o _ (by rw [addr_block]; exact hgl))]
      exact HC.out j u hu
    have HNW := hid hnews
    clear hnews
    go_wp2_with (at_builtin; refine wpList_append_own _ (o := ⟨some 7, _, _, _, _, _⟩) rfl (.tmp 5) (.tmp 6) 126 rfl w.heap.size 140 i0 (.agg #[.pointer none, .int .u32 0, .bool false]) 3 16 Try.underlying126 hi'.out hz0'.out hz1'.out hz2'.out rfl (by decide) (.slice (some ⟨w.heap.size, 0, none⟩) 0 0) 0 [] rfl (World.ownsRow_made w #[] 0 (Nat.le_refl _) (Nat.zero_le _) rfl) ⟨g, 0, none⟩ n cap xs rfl HL.out (HNW.out _) H1.out (by unfold maxLen; omega) (by omega) (by simp) ?_; intro v5 w5 hown5 hgrow5 hnil5)
    have HO := hid hown5
    have HG := hid hgrow5
    clear hown5 hgrow5 hnil5
    go_ret
    refine ⟨_, rfl, ?_, ((Below.refl _ _).alloc (Nat.le_refl _) _).grown HG.out (by simp) (fun k hk => by simp [Value.ownBlock] at hk; omega)⟩
    have := HO.out
    rw [Nat.zero_add, List.nil_append] at this
    exact this
end Go.Proofs.Ytmkajdfajcodjaa

namespace Go.Proofs.Ytmkajdfajcodjaa
open Go.ChangeShapes Go.WideShapes Go.ChangeAt Go.RowKit Go.Shelf
attribute [local go_sem] Oper.semAt_some

/-- The handles of what is taken, and what they find, from a place on. -/
def pairF : Nat → List Spot → List (Int × Int)
  | _, [] => []
  | k, s :: L => if s.t then (hand k s.g, s.x) :: pairF (k + 1) L else pairF (k + 1) L
theorem pairF_append (k : Nat) (M N : List Spot) : pairF k (M ++ N) = pairF k M ++ pairF (k + M.length) N := by
  induction M generalizing k with
  | nil => simp [pairF]
  | cons a M ih =>
    simp only [List.cons_append, pairF, ih (k + 1), List.length_cons]
    have e : k + 1 + M.length = k + (M.length + 1) := by omega
    rw [e]
    cases a.t <;> simp
theorem pairF_take (L : List Spot) (q : Nat) : pairF 0 (L.take q) <+: pairF 0 L := by
  have := pairF_append 0 (L.take q) (L.drop q)
  rw [List.take_append_drop] at this
  exact ⟨_, this.symm⟩
/-- What a loop's body keeps: the rows of places. -/
def KCE (W W' : World) : Prop := ∀ (k : Nat) (cs : Array Value), W.heap[k]? = some (.cells cs 140 (0, 0)) → W'.heap[k]? = some (.cells cs 140 (0, 0))
theorem KCE.t {A B C : World} (h : KCE A B) (k : KCE B C) : KCE A C := fun j cs hj => k j cs (h j cs hj)
theorem KCE.b (W : World) (l : Nat) (o o' : Obj) (h : W.heap[l]? = some o) (hc : o.isCells = false) : KCE W (W.putObj l o') := fun k cs hk => by
  have hne : k ≠ l := fun e => by subst e; rw [hk] at h; cases h; cases hc
  rw [World.putObj_heap_other hne]; exact hk

theorem KCE.owns {W W' : World} {B : Nat} {v : Value} {n : Nat} {xs : List Value} (h : KCE W W') (ho : W.ownsRow B 140 3 v n xs) : W'.ownsRow B 140 3 v n xs := by
  refine ⟨ho.1, ?_⟩
  rcases ho.2 with e | ⟨g, cap, cur, e, hb, hg, rest⟩
  · exact .inl e
  · exact .inr ⟨g, cap, cur, e, hb, h g cur hg, rest⟩
def IterPost (A : Ar) (J Jx : List (Int × Int) → World → Prop) (e : Ending) (W' : World) : Prop := (∃ v, e = .returned v) ∧ ((∃ ys, ys = pairF 0 A.L ∧ J ys W') ∨ (∃ pre, pre <+: pairF 0 A.L ∧ Jx pre W'))
set_option maxHeartbeats 1000000 in
theorem iter_any (n l Bn p : Nat) (S : Nat → Prop) (A : Ar) (J Jx : List (Int × Int) → World → Prop)
    (hY : ∀ pre (x : Int × Int) W, J pre W → pre ++ [x] <+: pairF 0 A.L → YieldAt Fence.wide (n - 1) Try.prog l #[.int .u64 x.1, encE x.2] W fun e W' =>
      (e = .returned (.bool true) ∧ J (pre ++ [x]) W' ∧ KCE W W') ∨ (e = .returned (.bool false) ∧ Jx (pre ++ [x]) W'))
    (W : World) (hBn : W.cell? ⟨Bn, 0, none⟩ = some (.pointer (some ⟨p, 0, none⟩))) (hI : InS S W p A) (hJ : ∀ s W W', J s W → Below W.heap.size W W' → J s W') (h0 : J [] W) :
    CallsIn Fence.wide n Try.prog 71 #[.func (.yield l) #[] #[], .pointer (some ⟨Bn, 0, none⟩)] W (IterPost A J Jx) := by
  obtain ⟨cv, fv, h1, h2, h3, h4, h5, h6⟩ := hI
  have c2 := h1.c2
  have hl := Nat.le_trans h2.len h2.m2
  have h1c := rowE_one A.L
  have hcl := CloneE_any W 0 cv A.L.length (rowE A.L) h1.hc hl h1c
  have HCL := hid hcl
  have HA := hid h2
  have HY := hid hY
  have HJ := hid hJ
  have H0 := hid h0
  clear h1 h2 h4 h5 h6 h1c hcl hY hJ h0
  obtain ⟨N, hN⟩ : ∃ N, N = A.L.length := ⟨_, rfl⟩
  have HN := hid hN
  refine callsIn_of_wp Try.func71 rfl trivial ?_ rfl
  simp only [Try.ntmps71, List.size_toArray, List.length_cons, List.length_nil, Nat.reduceAdd, Nat.reduceSub, Array.replicate_succ, Array.replicate_zero, List.push_toArray, List.append_toArray, List.nil_append, List.cons_append]
  rw [← hN] at hl
  clear hN
  gi_wp2
  refine ⟨trivial, (fun h => by cases h), ?_⟩
  refine (callsIn_wide.2 HCL.out).mono ?_
  rintro e W1 ⟨v1, rfl, hrow, hb1⟩
  obtain ⟨va, vk, hv1⟩ : ∃ a k, v1 = .slice a N k := by
    rw [HN.out]
    rcases hrow.2 with ⟨e1, e2⟩ | ⟨g, cap, _, e1, _⟩
    · exact ⟨none, 0, by rw [e1, e2]⟩
    · exact ⟨_, cap, e1⟩
  subst hv1
  have J1 := hid (HJ.out [] W W1 H0.out hb1)
  rw [← HN.out] at hrow
  have HR := hid hrow
  clear hrow hb1 HCL
  gi_wp2
  gi_loopw [13] (fun i wr => ∃ q : Nat, q ≤ N ∧ i = .int .i64 q ∧ RowKit.Hid (J (pairF 0 (A.L.take q)) wr) ∧ RowKit.Hid (wr.ownsRow W.heap.size 140 3 (.slice va N vk) N (rowE A.L))) (fun i _ => N - (intOf i).toNat)
  case atStart => exact ⟨0, Nat.zero_le _, rfl, hid (by simpa [pairF] using J1.out), HR⟩
  case round =>
    obtain ⟨q, hq, rfl, HJq, HRq⟩ := hrel
    by_cases hql : q < N
    · have hqL : q < A.L.length := by rw [← HN.out]; exact hql
      have hs : A.L[q]? = some A.L[q] := List.getElem?_eq_getElem hqL
      have htk : A.L.take (q + 1) = A.L.take q ++ [A.L[q]] := by rw [List.take_succ_eq_append_getElem hqL]
      generalize A.L[q] = s at hs htk
      have hgen := (HA.out.gen q s hs).2
      obtain ⟨g, k', hvf, _⟩ := HRq.out.form (by omega)
      simp only [Value.slice.injEq] at hvf
      obtain ⟨rfl, -, rfl⟩ := hvf
      have g0 : wr.cell? ⟨g, q * 3, none⟩ = some (encE s.x) := by
        rw [HRq.out.cellAt (q * 3) (by omega)]; exact rowE_at A.L q 0 s hs (by omega)
      have g1 : wr.cell? ⟨g, q * 3 + 1, none⟩ = some (.int .u32 s.g) := by
        rw [HRq.out.cellAt (q * 3 + 1) (by omega)]; exact rowE_at A.L q 1 s hs (by omega)
      have g2 : wr.cell? ⟨g, q * 3 + 2, none⟩ = some (.bool s.t) := by
        rw [HRq.out.cellAt (q * 3 + 2) (by omega)]; exact rowE_at A.L q 2 s hs (by omega)
      have HS := hid hs
      have HT := hid htk
      clear hs htk hqL
      have hpre : pairF 0 (A.L.take (q + 1)) = pairF 0 (A.L.take q) ++ (if s.t then [(hand q s.g, s.x)] else []) := by
        rw [HT.out, pairF_append]
        have e2 : 0 + (A.L.take q).length = q := by
          have := HN.out
          simp; omega
        rw [e2]
        simp only [pairF]
      have HPR := hid hpre
      clear hpre
      obtain ⟨sx, sg, st⟩ := s
      simp only at g0 g1 g2 hgen
      have hB2 : Below wr.heap.size wr (wr.alloc (.cells #[encE sx, .int .u32 sg, .bool st] 140)).drew := ((Below.refl _ _).alloc (Nat.le_refl _) _).drew
      have J2 := hid (HJ.out _ wr _ HJq.out hB2)
      have hx2 := heap_alloc_new wr (.cells #[encE sx, .int .u32 sg, .bool st] 140)
      have d0 : (wr.alloc (.cells #[encE sx, .int .u32 sg, .bool st] 140)).cell? ⟨wr.heap.size, 0, none⟩ = some (encE sx) := by rw [cell_of_row _ _ 0 _ 140 _ hx2]; rfl
      have d1 : (wr.alloc (.cells #[encE sx, .int .u32 sg, .bool st] 140)).cell? ⟨wr.heap.size, 1, none⟩ = some (.int .u32 sg) := by rw [cell_of_row _ _ 1 _ 140 _ hx2]; rfl
      have d2 : (wr.alloc (.cells #[encE sx, .int .u32 sg, .bool st] 140)).cell? ⟨wr.heap.size, 2, none⟩ = some (.bool st) := by rw [cell_of_row _ _ 2 _ 140 _ hx2]; rfl
      have R2 := hid ((HRq.out.alloc (.cells #[encE sx, .int .u32 sg, .bool st] 140)).drew)
      clear hB2 hx2
      gi_wp2
      obtain ⟨w2, hw2⟩ : ∃ w2, w2 = wr.alloc (.cells #[encE sx, .int .u32 sg, .bool st] 140) := ⟨_, rfl⟩
      rw [← hw2] at J2 d0 d1 d2 R2 ⊢
      obtain ⟨cb, hcb⟩ : ∃ cb, cb = wr.heap.size := ⟨_, rfl⟩
      rw [← hcb] at d0 d1 d2 ⊢
      clear hw2 hcb g0 g1 g2 HRq HJq
      cases st with
      | false =>
        have hpf : pairF 0 (A.L.take (q + 1)) = pairF 0 (A.L.take q) := by rw [HPR.out]; simp
        have HPF := hid hpf
        clear hpf HPR
        refine G.wp_region_mix [0, 1, 0, 0, 0, 0, 0, 0, 0, 0, 0, 0, 0] (fun W => W.cell? ⟨cb, 0, none⟩ = some (encE sx) ∧ W.cell? ⟨cb, 1, none⟩ = some (.int .u32 sg) ∧ W.cell? ⟨cb, 2, none⟩ = some (.bool false)) (by kernel_rfl) (by kernel_rfl) ⟨d0, d1, d2⟩ ?_
        repeat (first
          | (refine' E.wpMix_not (by decide) rfl _; simp only [Act.put, List.setIfInBounds_toArray, List.set_cons_zero, List.set_cons_succ])
          | (refine' E.wpMix_value _ rfl rfl _ _; rotate_left; (solve | (intro W; go_simp) | (intro W; go_simp; with_reducible rfl)); simp only [Act.put, List.setIfInBounds_toArray, List.set_cons_zero, List.set_cons_succ])
          | (refine' E.wpMix_read _ rfl rfl _ _; rotate_left; (solve | (rintro W ⟨h1, h2, h3⟩; go_simp) | (rintro W ⟨h1, h2, h3⟩; go_simp; with_reducible rfl)); simp only [Act.put, List.setIfInBounds_toArray, List.set_cons_zero, List.set_cons_succ]))
        refine E.wpMix_end ?_
        gi_wp2
        go_roundw
        case rel => exact ⟨q + 1, by omega, by go_num, by rw [HPF.out]; exact J2, R2⟩
        case measure => simp [intOf]; omega
      | true =>
        have hpf : pairF 0 (A.L.take (q + 1)) = pairF 0 (A.L.take q) ++ [(hand q sg, sx)] := by rw [HPR.out]; simp
        obtain ⟨hd, hhd⟩ : ∃ hd, hd = hand q sg := ⟨_, rfl⟩
        have hjn : ∀ W, Calls Try.prog 64 #[.int .i64 q, .int .u32 sg] W fun e w' => e = .returned (.int .u64 hd) ∧ W = w' := fun W => by
          have := join_any q sg W (by omega) (by omega) (by omega) (by omega)
          have e1 : (sg : Int) * 4294967296 + q + 1 = hd := by rw [hhd]; rfl
          rw [e1] at this; exact this
        rw [← hhd] at hpf
        have hlen : pairF 0 (A.L.take q) ++ [(hd, sx)] <+: pairF 0 A.L := by
          have h1 := pairF_take A.L (q + 1)
          rw [hpf] at h1
          exact h1
        have hy0 := HY.out (pairF 0 (A.L.take q)) (hd, sx) w2.drew J2.out hlen
        have HPF := hid hpf
        have HJN := hid hjn
        clear hpf HPR hhd hjn hlen
        obtain ⟨fn, tmps, assign, body, hy, hRd⟩ := hy0
        dsimp only at hy
        have HRD := hid hRd
        clear hRd
        refine G.wp_region_mix [0, 1, 0, 0, 0, 0, 1, 2, 0, 1, 3, 0, 0] (fun W => W.cell? ⟨cb, 0, none⟩ = some (encE sx) ∧ W.cell? ⟨cb, 1, none⟩ = some (.int .u32 sg) ∧ W.cell? ⟨cb, 2, none⟩ = some (.bool true)) (by kernel_rfl) (by kernel_rfl) ⟨d0, d1, d2⟩ ?_
        repeat (first
          | (refine' E.wpMix_not (by decide) rfl _; simp only [Act.put, List.setIfInBounds_toArray, List.set_cons_zero, List.set_cons_succ])
          | (refine' E.wpMix_value _ rfl rfl _ _; rotate_left; (solve | (intro W; go_simp) | (intro W; go_simp; with_reducible rfl)); simp only [Act.put, List.setIfInBounds_toArray, List.set_cons_zero, List.set_cons_succ])
          | (refine' E.wpMix_read _ rfl rfl _ _; rotate_left; (solve | (rintro W ⟨h1, h2, h3⟩; go_simp) | (rintro W ⟨h1, h2, h3⟩; go_simp; with_reducible rfl)); simp only [Act.put, List.setIfInBounds_toArray, List.set_cons_zero, List.set_cons_succ]))
        refine E.wpMix_call 64 #[.int .i64 q, .int .u32 sg] (by decide) rfl (by go_simp) ?_
        refine (HJN.out _).mono ?_
        rintro e w' ⟨rfl, rfl⟩
        refine ⟨_, rfl, fun _ => ⟨d0, d1, d2⟩, ?_⟩
        simp only [Act.put, List.setIfInBounds_toArray, List.set_cons_zero, List.set_cons_succ]
        repeat (first
          | (refine' E.wpMix_not (by decide) rfl _; simp only [Act.put, List.setIfInBounds_toArray, List.set_cons_zero, List.set_cons_succ])
          | (refine' E.wpMix_value _ rfl rfl _ _; rotate_left; (solve | (intro W; go_simp) | (intro W; go_simp; with_reducible rfl)); simp only [Act.put, List.setIfInBounds_toArray, List.set_cons_zero, List.set_cons_succ])
          | (refine' E.wpMix_read _ rfl rfl _ _; rotate_left; (solve | (rintro W ⟨h1, h2, h3⟩; go_simp) | (rintro W ⟨h1, h2, h3⟩; go_simp; with_reducible rfl)); simp only [Act.put, List.setIfInBounds_toArray, List.set_cons_zero, List.set_cons_succ]))
        refine E.wpMix_round l fn tmps assign body (by decide) rfl (by go_simp) ?_
        refine HRD.out.mono ?_
        rintro e W3 (⟨rfl, hJ3, hk3⟩ | ⟨rfl, hJx3⟩)
        · refine ⟨_, rfl, (fun h => by cases h), ?_⟩
          have J3 := hid hJ3
          have R3 := hid (hk3.owns R2.out)
          clear hJ3 hk3
          simp only [Act.put, List.setIfInBounds_toArray, List.set_cons_zero, List.set_cons_succ]
          repeat (first
            | (refine' E.wpMix_not (by decide) rfl _; simp only [Act.put, List.setIfInBounds_toArray, List.set_cons_zero, List.set_cons_succ])
            | (refine' E.wpMix_value _ rfl rfl _ _; rotate_left; (solve | (intro W; go_simp) | (intro W; go_simp; with_reducible rfl)); simp only [Act.put, List.setIfInBounds_toArray, List.set_cons_zero, List.set_cons_succ])
            | (refine' E.wpMix_read _ rfl rfl _ _; rotate_left; (solve | (rintro W ⟨h1, h2, h3⟩; go_simp) | (rintro W ⟨h1, h2, h3⟩; go_simp; with_reducible rfl)); simp only [Act.put, List.setIfInBounds_toArray, List.set_cons_zero, List.set_cons_succ]))
          refine E.wpMix_end ?_
          gi_wp2
          go_roundw
          case rel => exact ⟨q + 1, by omega, by go_num, by rw [HPF.out]; exact J3, R3⟩
          case measure => simp [intOf]; omega
        · refine ⟨_, rfl, (fun h => by cases h), ?_⟩
          have J3 := hid hJx3
          clear hJx3
          simp only [Act.put, List.setIfInBounds_toArray, List.set_cons_zero, List.set_cons_succ]
          repeat (first
            | (refine' E.wpMix_not (by decide) rfl _; simp only [Act.put, List.setIfInBounds_toArray, List.set_cons_zero, List.set_cons_succ])
            | (refine' E.wpMix_value _ rfl rfl _ _; rotate_left; (solve | (intro W; go_simp) | (intro W; go_simp; with_reducible rfl)); simp only [Act.put, List.setIfInBounds_toArray, List.set_cons_zero, List.set_cons_succ])
            | (refine' E.wpMix_read _ rfl rfl _ _; rotate_left; (solve | (rintro W ⟨h1, h2, h3⟩; go_simp) | (rintro W ⟨h1, h2, h3⟩; go_simp; with_reducible rfl)); simp only [Act.put, List.setIfInBounds_toArray, List.set_cons_zero, List.set_cons_succ]))
          refine E.wpMix_end ?_
          gi_wp2
          refine bodyPost_ret (results_none rfl _ _ _) rfl ?_
          exact ⟨⟨_, rfl⟩, .inr ⟨_, by have := pairF_take A.L (q + 1); rw [HPF.out] at this; exact this, J3.out⟩⟩
    · obtain rfl : q = N := by omega
      have ht : A.L.take q = A.L := List.take_of_length_le (by rw [← HN.out]; exact Nat.le_refl _)
      have HT := hid ht
      clear ht
      gi_wp2
      go_end0
      exact ⟨⟨_, rfl⟩, .inl ⟨_, rfl, by have := HJq.out; rw [HT.out] at this; exact this⟩⟩
end Go.Proofs.Ytmkajdfajcodjaa

namespace Go.Proofs.Ytmkajdfajcodjaa
open Go Go.ChangeShapes Go.WideShapes Go.ChangeAt Go.RowKit Go.Shelf
attribute [local go_sem] Oper.semAt_some

theorem pairF_all : ∀ (L : List Spot) (k : Nat), (pairF k L).map (·.1) = (((L.map e0).zipIdx k).filter (·.1.t)).map fun p => hand p.2 p.1.g
  | [], _ => rfl
  | s :: L, k => by
    have ih := pairF_all L (k + 1)
    rw [List.map_cons, List.zipIdx_cons, List.filter_cons]
    unfold pairF
    have e1 : (e0 s, k).1.t = s.t := rfl
    rw [e1]
    cases s.t with
    | true => simp only [if_true, List.map_cons]; rw [ih]; rfl
    | false => simp only [Bool.false_eq_true, if_false]; exact ih
theorem arenaAll_any (w : World) (pa : Nat) : Calls Try.prog 61 #[.pointer (some ⟨pa, 0, none⟩)] w fun e w' => e = .returned (.func (.func 71) #[] #[.pointer (some ⟨w.heap.size, 0, none⟩)]) ∧ w' = w.alloc (.cells #[.pointer (some ⟨pa, 0, none⟩)] 81) := by
  go_enter Try.func61, Try.ntmps61
  go_wp2
  go_ret
  exact ⟨rfl, rfl⟩
def encPr (x : Int × Int) : Array Value := #[.int .u64 x.1, encE x.2]
theorem arena_stops (n Bn p : Nat) (S : Nat → Prop) (A : Ar) (w : World) (hBn : Boxed w Bn 81 (.pointer (some ⟨p, 0, none⟩))) (hI : InS S w p A) :
    SeqStopsK Fence.wide n Try.prog 71 #[.pointer (some ⟨Bn, 0, none⟩)] encPr KCE (fun ys => ys = pairF 0 A.L) (fun pre => pre <+: pairF 0 A.L) (pairF 0 A.L).length w := fun l J Jx W hW hJ _ hY h0 =>
  iter_any n l Bn p S A J Jx (fun pre x W hj hp => hY pre x W hj (by have := hp.length_le; simp at this; omega)) W (Boxed.cell ((hW.block Bn hBn.lt).trans hBn)) (hI.fr (fp := fun _ => False) (Fr.of_below hW) (fun _ _ e => e)) (fun s W W' h hb => hJ s W W' none h (grown_of_below hb) (fun r e => by cases e)) h0
/-- .. told in order. -/
theorem arena_tells (n Bn p : Nat) (S : Nat → Prop) (A : Ar) (w : World) (hBn : Boxed w Bn 81 (.pointer (some ⟨p, 0, none⟩))) (hI : InS S w p A) :
    TellsX Fence.wide n Try.prog 71 #[.pointer (some ⟨Bn, 0, none⟩)] encPr (fun (_ : Unit) W W' => Below W.heap.size W W') (fun _ => KCE) (fun _ _ => True) (pairF 0 A.L) w := fun l J Jx W hW hJ _ _ _ hY h0 => by
  refine (iter_any n l Bn p S A (J ()) Jx (fun pre x W' hj hp => (hY () pre x W' hj hp).mono ?_) W (Boxed.cell ((hW.block Bn hBn.lt).trans hBn)) (hI.fr (fp := fun _ => False) (Fr.of_below hW) (fun _ _ e => e)) (fun s W W' h hb => hJ () s W W' none h (grown_of_below hb) (fun r e => by cases e)) (h0 () W (Below.refl _ _))).mono ?_
  · rintro e W' (⟨h1, h2, h3, _⟩ | ⟨h1, h2, _⟩)
    · exact .inl ⟨h1, h2, h3⟩
    · exact .inr ⟨h1, h2⟩
  · rintro e W' ⟨h1, ⟨ys, rfl, h2⟩ | ⟨pre, h2, h3⟩⟩
    · exact ⟨h1, .inl ⟨(), h2⟩⟩
    · exact ⟨h1, .inr ⟨pre, h2, h3⟩⟩
theorem roundIn_wide2 {n m : Nat} {P : Program} {l : Nat} {f : FuncId} {tmps : Array Value} {assign body : Code} {w : World} {R : Ending → World → Prop} (h : RoundIn Fence.wide n P l f tmps assign body w R) : RoundIn Fence.wide m P l f tmps assign body w R :=
  ⟨h.1, fun c cs _ => h.2 c cs (room_wide _)⟩
theorem round_inR {n : Nat} {P : Program} {l : Nat} {f : FuncId} {tmps : Array Value} {assign body : Code} {w : World} {R : Ending → World → Prop} (lo : Nat) (h : RoundIn Fence.wide n P l f tmps assign body w R) : RoundIn (Fence.wide.inRound lo) n P l f tmps assign body w R := h
end Go.Proofs.Ytmkajdfajcodjaa

namespace Go.Proofs.Ytmkajdfajcodjaa
open Go Go.ChangeShapes Go.WideShapes Go.ChangeAt Go.RowKit Go.Shelf
attribute [local go_sem] Oper.semAt_some

theorem pairF_allA (AA : Ar) : (pairF 0 AA.L).map (·.1) = allA (er AA) := pairF_all AA.L 0
theorem HAll_any (w : World) (p : Nat) : Calls Try.prog 45 #[.pointer (some ⟨p, 0, none⟩)] w fun e w' => e = .returned (.func (.func 60) #[] #[.pointer (some ⟨w.heap.size, 0, none⟩)]) ∧ w' = w.alloc (.cells #[.pointer (some ⟨p, 0, none⟩)] 24) := by
  go_enter Try.func45, Try.ntmps45
  go_wp2
  go_ret
  exact ⟨rfl, rfl⟩
/-- Between two rounds. -/
structure AlI (lp Y : Nat) (J : List Int → World → Prop) (pre : List (Int × Int)) (W : World) : Prop where
  j : J (pre.map (·.1)) W
  y : W.heap[Y]? = some (.cells #[.func (.yield lp) #[] #[]] 131 (0, 0))
set_option maxRecDepth 100000 in
set_option maxHeartbeats 4000000 in
theorem all_tells (n Bp p pa : Nat) (hn : 3 ≤ n) (Sa : Nat → Prop) (AA : Ar) (S : Nat → Prop) (w : World) (hb : Boxed w Bp 24 (.pointer (some ⟨p, 0, none⟩))) (hp : w.cell? ⟨p, 0, none⟩ = some (.pointer (some ⟨pa, 0, none⟩))) (hI : InS Sa w pa AA) :
    Tells Fence.wide n Try.prog 60 #[.pointer (some ⟨Bp, 0, none⟩)] encU (fun _ _ => True) (KT S KTy) (fun ys => ys = allA (er AA)) (fun pre => pre <+: allA (er AA)) w := fun lp J Jx W hW hAJ hAJx hY h0 => by
  have h1 : 1 ≤ n := by omega
  obtain ⟨w0, hw0⟩ : ∃ w0, w0 = W.alloc (.cells #[.func (.yield lp) #[] #[]] 131) := ⟨_, rfl⟩
  have hb0 : Below W.heap.size W w0 := by rw [hw0]; exact (Below.refl _ _).alloc (Nat.le_refl _) _
  have hbw : Below w.heap.size w w0 := hW.trans (hb0.mono hW.size)
  have d0 : w0.cell? ⟨Bp, 0, none⟩ = some (.pointer (some ⟨p, 0, none⟩)) := Boxed.cell ((hbw.block Bp hb.lt).trans hb)
  have d1 : w0.cell? ⟨p, 0, none⟩ = some (.pointer (some ⟨pa, 0, none⟩)) := by rw [World.cell?_of_block (hbw.block p (World.block_lt_of_cell? w _ hp))]; exact hp
  obtain ⟨w1, hw1⟩ : ∃ w1, w1 = w0.alloc (.cells #[.pointer (some ⟨pa, 0, none⟩)] 81) := ⟨_, rfl⟩
  have hb1 : Below w0.heap.size w0 w1 := by rw [hw1]; exact (Below.refl _ _).alloc (Nat.le_refl _) _
  have hbn : Boxed w1 w0.heap.size 81 (.pointer (some ⟨pa, 0, none⟩)) := by rw [hw1]; exact Boxed.new _ _ _
  have hst := arena_stops (n - 1) w0.heap.size pa Sa AA w1 hbn (hI.fr (fp := fun _ => False) (Fr.of_below (hbw.trans (hb1.mono hbw.size))) (fun _ _ e => e))
  have hsz0 : w0.heap.size = W.heap.size + 1 := by rw [hw0]; simp
  have hy0 : w0.heap[W.heap.size]? = some (.cells #[.func (.yield lp) #[] #[]] 131 (0, 0)) := by rw [hw0]; exact heap_alloc_new _ _
  have hI0 : AlI lp W.heap.size J [] w1 := ⟨hAJ _ _ _ _ h0 (grown_of_below (hb0.trans (hb1.mono hb0.size))) (fun r e => by cases e), (hb1.block _ (by omega)).trans hy0⟩
  have hz1 : w1.heap.size = W.heap.size + 2 := by rw [hw1]; simp; omega
  have HST := hid hst
  have HI0 := hid hI0
  have HY := hid hY
  have HAJ := hid hAJ
  have HAJX := hid hAJx
  have HW0 := hid hw0
  have HW1 := hid hw1
  have HZ1 := hid hz1
  have HZ0 := hid hsz0
  clear hst hI0 hY hAJ hAJx hw0 hw1 hb0 hb1 hbn hy0 hbw hW hb hp hI hz1 hsz0 h0
  refine callsIn_of_wp_marks Try.func60 rfl trivial ?_ rfl
  simp only [Try.ntmps60, List.size_toArray, List.length_cons, List.length_nil, Nat.reduceAdd, Nat.reduceSub, Array.replicate_succ, Array.replicate_zero, List.push_toArray, List.append_toArray, List.nil_append, List.cons_append]
  gi_upto_region 1 with (fail)
  rw [← HW0.out]
  gi_wp2_with fail
  first
    | refine (callsIn_wide.2 (arenaAll_any _ _)).mono ?_
    | refine ⟨trivial, (callsIn_wide.2 (arenaAll_any _ _)).mono ?_⟩
    | refine ⟨trivial, (fun h => by cases h), (callsIn_wide.2 (arenaAll_any _ _)).mono ?_⟩
  rintro e w' ⟨rfl, hw'⟩
  obtain rfl : w' = w1 := hw'.trans HW1.out.symm
  clear hw'
  gi_wp2
  refine wpIn_rangeFunc_ownH rfl h1 (gf := 71) (lb := #[.pointer (some ⟨w0.heap.size, 0, none⟩)]) rfl trivial (enters_of Try.func71 (by kernel_rfl) rfl)
    HST.out (fun h k => h.t k) (fun W l o o' _ h2 h3 _ => KCE.b W l o o' h2 h3) (Below.refl _ _) (fun _ => rfl)
    (AlI lp W.heap.size J) (fun c (pre : List (Int × Int)) Wc => c = .ret ∧ Jx (pre.map (·.1)) Wc)
    (fun pre X Y row h hg hr => ⟨HAJ.out _ _ _ _ h.j hg (fun r e => ⟨by have := (hr r e).1; have := HZ1.out; omega, (hr r e).2⟩), heap_kept h.y hg (not_cells h.y (fun r e => (hr r e).2))⟩)
    (fun _ (pre : List (Int × Int)) X Y row ⟨hc, h⟩ hg hr => ⟨hc, HAJX.out (pre.map (·.1)) X Y row h hg (fun r e => ⟨by have := (hr r e).1; have := HZ1.out; omega, (hr r e).2⟩)⟩) HI0.out
    (fun x a' Wc => a' = { tmps := #[.func (.yield lp) #[] #[], .pointer (some ⟨Bp, 0, none⟩), .pointer (some ⟨W.heap.size, 0, none⟩), .int .u64 x.1, .pointer (some ⟨p, 0, none⟩), .bool false, .pointer (some ⟨p, 0, none⟩), .pointer (some ⟨p, 0, none⟩), .pointer (some ⟨p, 0, none⟩), .pointer (some ⟨pa, 0, none⟩), .func (.func 71) #[] #[.pointer (some ⟨w0.heap.size, 0, none⟩)], .int .u64 x.1, encE x.2, undef, undef, undef, undef], defers := [] })
    (fun x a' _ X Y row hs hg hr => hs)
    ?assign ?body ?done ?stop
  case assign =>
    rintro lo pre x Wc K hci hK
    simp only [encPr]
    have HCI := hid hci
    have HKK := hid hK
    clear hci hK
    gi_wp2
    exact HKK.out _ _ (KeepsFrom.refl _ _) (fun _ _ h => h) HCI.out rfl
  case body =>
    rintro lo pre x a' Wc hl ⟨r, hr⟩ H rfl hlt
    have y0 : Wc.cell? ⟨W.heap.size, 0, none⟩ = some (.func (.yield lp) #[] #[]) := by rw [cell_of_row Wc W.heap.size 0 _ _ _ H.y]; rfl
    obtain ⟨fn, tmps, assign, body, hy, hRd⟩ := HY.out (pre.map (·.1)) x.1 Wc H.j trivial
    simp only [encU] at hy
    have HRD := hid (roundIn_wide2 (m := n - 1 - 1 - 1) hRd)
    have HYB := hid H.y
    have hmap : (pre ++ [x]).map (·.1) = pre.map (·.1) ++ [x.1] := by simp
    have HMAP := hid hmap
    clear H hl hr hlt hRd hmap
    gi_wp2
    refine ⟨(fun h => by cases h), (round_inR lo HRD.out).mono ?_⟩
    rintro e W6 (⟨rfl, hJ6, hk6, hf6⟩ | ⟨rfl, hJx6, hf6⟩)
    · have HJ6 := hid hJ6
      have HK6 := hid hk6
      have HF6 := hid hf6
      clear hJ6 hk6 hf6
      gi_wp2
      refine ⟨kf_up HF6.out (by have := HZ1.out; omega), (fun k cs h => HK6.out k cs _ _ (.inr (.inl rfl)) h), ⟨?_, HK6.out _ _ _ _ (.inr (.inr rfl)) HYB.out⟩⟩
      rw [HMAP.out]; exact HJ6.out
    · have HJ6 := hid hJx6
      have HF6 := hid hf6
      clear hJx6 hf6
      gi_wp2
      refine ⟨kf_up HF6.out (by have := HZ1.out; omega), rfl, ?_⟩
      rw [HMAP.out]; exact HJ6.out
  case done =>
    rintro D ys Wc hD rfl H hK
    have HH := hid H
    clear H
    gi_wp2
    refine ⟨by simp, .inl ⟨_, _, rfl, run_takeDeferred hK, ?_⟩⟩
    refine ⟨_, results_none rfl _ _ _, ⟨_, rfl⟩, .inl ⟨_, pairF_allA AA, HAJ.out.putObj _ HH.out.j (by have := HZ1.out; omega) hK rfl⟩⟩
  case stop =>
    rintro D c pre Wc hD hp ⟨rfl, h2⟩ hK
    have HH := hid h2
    have HP := hid hp
    clear h2 hp
    gi_wp2
    refine ⟨by simp, .inl ⟨_, _, rfl, run_takeDeferred hK, ?_⟩⟩
    refine ⟨_, results_none rfl _ _ _, ⟨_, rfl⟩, .inr ⟨_, ?_, HAJX.out.putObj _ HH.out (by have := HZ1.out; omega) hK rfl⟩⟩
    rw [← pairF_allA]
    exact HP.out.map _
end Go.Proofs.Ytmkajdfajcodjaa

namespace Go.Proofs.Ytmkajdfajcodjaa
open Go Go.ChangeShapes Go.WideShapes Go.ChangeAt Go.RowKit Go.Shelf
attribute [local go_sem] Oper.semAt_some

theorem seq2_not_nil (f : Nat) (fv : Array Value) (W : World) : (binOp .neq 124 (.func (.func f) #[] fv) .nilFunc).run Try.prog W = .ok (.bool true) W := by kernel_rfl
set_option maxRecDepth 100000 in
theorem infoLk : (Try.prog.info? 67).map (fun i => (i.zero, i.size, i.bytes)) = some (some (.agg #[.int .i64 0, .int .u64 0]), 2, 16) := by kernel_rfl
def encL (x : Lk × Nat) : Array Value := #[.int .i64 (x.2 : Int), .agg #[.int .i64 x.1.kind, .int .u64 x.1.h]]
def lkc (l : List (Lk × Nat)) : List Value := l.flatMap fun x => [.int .i64 x.1.kind, .int .u64 x.1.h]
theorem lkc_app (l : List (Lk × Nat)) (x : Lk × Nat) : lkc (l ++ [x]) = lkc l ++ [.int .i64 x.1.kind, .int .u64 x.1.h] := by simp [lkc]
theorem lkc_len (l : List (Lk × Nat)) : (lkc l).length = l.length * 2 := by
  induction l with
  | nil => rfl
  | cons a l ih =>
    have : lkc (a :: l) = [.int .i64 a.1.kind, .int .u64 a.1.h] ++ lkc l := by simp [lkc]
    rw [this, List.length_append, ih, List.length_cons, List.length_cons, List.length_cons, List.length_nil]
    omega
theorem lkc_at : ∀ (l : List (Lk × Nat)) (j : Nat) (x : Lk × Nat), l[j]? = some x → (lkc l)[j * 2]? = some (.int .i64 x.1.kind) ∧ (lkc l)[j * 2 + 1]? = some (.int .u64 x.1.h)
  | a :: l, 0, x, h => by
    simp at h
    subst h
    simp [lkc]
  | a :: l, j + 1, x, h => by
    have h1 := lkc_at l j x (by simpa using h)
    have : lkc (a :: l) = [.int .i64 a.1.kind, .int .u64 a.1.h] ++ lkc l := by simp [lkc]
    rw [this, List.getElem?_append_right (by simp; omega), List.getElem?_append_right (by simp; omega)]
    rw [show (j + 1) * 2 - ([.int .i64 a.1.kind, .int .u64 a.1.h] : List Value).length = j * 2 by simp; omega, show (j + 1) * 2 + 1 - ([.int .i64 a.1.kind, .int .u64 a.1.h] : List Value).length = j * 2 + 1 by simp; omega]
    exact h1
theorem ToldL.of_own {W : World} {B : Nat} {T : TypeId} {v : Value} {pre : List (Lk × Nat)} (h : W.ownsRow B T 2 v pre.length (lkc pre)) : ToldL W v (pre.map (·.1)) := by
  obtain ⟨a, c, rfl⟩ := own_form h
  refine ⟨a, c, by rw [List.length_map], by rw [List.length_map]; exact own_cap h, own_capmax h, fun hl => ?_⟩
  rw [List.length_map] at hl
  rcases h.2 with ⟨h1, h2⟩ | ⟨g, cap, cur, h1, h2, h3, _⟩
  · have : pre.length = 0 := by
      have h4 := congrArg (fun v => match v with | Value.slice _ n _ => n | _ => 0) h1
      simpa using h4
    omega
  · cases h1
    refine ⟨g, 0, rfl, (Array.getElem?_eq_some_iff.1 h3).1, fun j x hx => ?_⟩
    rw [List.getElem?_map, Option.map_eq_some_iff] at hx
    obtain ⟨y, hy, rfl⟩ := hx
    have hj := (List.getElem?_eq_some_iff.1 hy).1
    obtain ⟨e1, e2⟩ := lkc_at pre j y hy
    have hlen := lkc_len pre
    have c1 := h.cellAt (j * 2) (by omega)
    have c2 := h.cellAt (j * 2 + 1) (by omega)
    rw [e1] at c1
    rw [e2] at c2
    rw [Nat.zero_add]
    exact ⟨c1, c2⟩
/-- A block of the iterator's own, or none. -/
def OkT (t : Option Nat) (W W' : World) : Prop := Below W.heap.size W W' ∧ ∀ k, t = some k → W.heap.size ≤ k ∧ k < W'.heap.size
def KpT (t : Option Nat) (W W' : World) : Prop := KS (fun k => t = some k) W W'
/-- The contract of a heap's Links. -/
def SlC (w0 : World) (Rp : (Nat → Prop) → World → Value → Hs → Prop) : Prop :=
  ∀ (S : Nat → Prop) (w : World) (p : Value) (s : Hs) (h : Int), Below w0.heap.size w0 w → Rp S w p s → Hn h → Calls Try.prog 57 #[p, .int .u64 h] w fun e w' => Below w.heap.size w w' ∧
    ∃ gf lb, e = .returned (.func (.func gf) #[] lb) ∧ Fence.wide.fn gf ∧ (∀ args W, (callFunc gf args).run Try.prog W = .ok (.enter gf args) W) ∧
      ∀ n, 3 ≤ n → TellsX Fence.wide n Try.prog gf lb encL OkT KpT (fun _ _ => True) (linksOf s.L h).zipIdx w'
/-- Between two rounds: the row in its box. -/
structure LK (w : World) (n0 : Nat) (m : Int) (t : Option Nat) (pre : List (Lk × Nat)) (u : Value) (W : World) : Prop where
  b0 : Boxed W w.heap.size 3 (.int .i64 m)
  b1 : Boxed W (w.heap.size + 1) 77 u
  r1 : W.ownsRow n0 67 2 u pre.length (lkc pre)
  ml : (pre.length : Int) ≤ m
  below : Below w.heap.size w W
  sz : n0 ≤ W.heap.size
  tt : ∀ k, t = some k → n0 ≤ k ∧ k < W.heap.size ∧ u.ownBlock ≠ some k
theorem LK.kept {w : World} {n0 : Nat} {m : Int} {t : Option Nat} {pre : List (Lk × Nat)} {u : Value} {W W' : World} {row : Option Nat} (h : LK w n0 m t pre u W) (hg : W.grownBy W' row) (hr : ∀ r, row = some r → w.heap.size ≤ r ∧ ∃ o : Obj, W.heap[r]? = some o ∧ o.isCells = false) : LK w n0 m t pre u W' :=
  have hr' := fun r e => (hr r e).2
  ⟨h.b0.kept hg (not_cells h.b0 hr'), h.b1.kept hg (not_cells h.b1 hr'), owns_not_cells h.r1 hg hr', h.ml, h.below.grown hg h.below.size (fun k e => (hr k e).1), Nat.le_trans h.sz hg.size, fun k hk => ⟨(h.tt k hk).1, Nat.lt_of_lt_of_le (h.tt k hk).2.1 hg.size, (h.tt k hk).2.2⟩⟩
set_option maxRecDepth 100000 in
set_option maxHeartbeats 4000000 in
theorem links_in (n : Nat) (hn : 4 ≤ n) (w0 : World) (Rp : (Nat → Prop) → World → Value → Hs → Prop) (HB : HeapB w0 Rp) (HS : SlC w0 Rp) (S : Nat → Prop) (w : World) (p : Value) (s : Hs) (h : Int) (m : Nat) (hB : Below w0.heap.size w0 w) (hR : Rp S w p s) (hh : Hn h) (hm : m ≤ 1000) :
    CallsIn Fence.wide n Try.prog 33 #[p, .int .u64 h, .int .i64 m] w fun e w' => Below w.heap.size w w' ∧ ∃ v, e = .returned v ∧ ToldL w' v ((linksOf s.L h).take m) := by
  have h1 : 1 ≤ n := by omega
  obtain ⟨i0, hi, hz0, hz1, hz2⟩ := info_parts infoLk
  obtain ⟨pb, rfl⟩ := HB.ptr hR
  obtain ⟨mi, hmi⟩ : ∃ mi : Int, mi = (m : Int) := ⟨_, rfl⟩
  rw [← hmi]
  have hmi2 : 0 ≤ mi ∧ mi ≤ 1000 := by omega
  obtain ⟨w1, hw1⟩ : ∃ w1, w1 = (w.alloc (.cells #[.int .i64 mi] 3)).alloc (.cells #[.slice none 0 0] 77) := ⟨_, rfl⟩
  have hb1 : Below w.heap.size w w1 := by rw [hw1]; exact ((Below.refl _ _).alloc (Nat.le_refl _) _).alloc (by simp) _
  have hsz1 : w1.heap.size = w.heap.size + 2 := by rw [hw1]; simp
  have b0 := (Boxed.new w 3 (.int .i64 mi)).alloc (.cells #[.slice none 0 0] 77)
  have b1 := Boxed.new (w.alloc (.cells #[.int .i64 mi] 3)) 77 (.slice none 0 0)
  simp only [World.size_alloc] at b1
  rw [← hw1] at b0 b1
  have HM := hid hmi
  clear hmi hm
  have hlt := HB.lt hR
  have HC := hid (HS S w1 _ s h (hB.trans (hb1.mono hB.size)) (HB.keep hR (fun b hb => hb1.block b (hlt b hb)) hb1.size) hh)
  obtain ⟨L, hL⟩ : ∃ L, L = linksOf s.L h := ⟨_, rfl⟩
  rw [← hL] at HC ⊢
  have HB0 := hid b0
  have HB1 := hid b1
  have HBW := hid hb1
  have HW1 := hid hw1
  have HZ1 := hid hsz1
  have HLT := hid hlt
  clear hR hB hL b0 b1 hb1 hw1 hsz1 hlt HS hh
  refine callsIn_of_wp_marks Try.func33 rfl trivial ?_ rfl
  simp only [Try.ntmps33, List.size_toArray, List.length_cons, List.length_nil, Nat.reduceAdd, Nat.reduceSub, Array.replicate_succ, Array.replicate_zero, List.push_toArray, List.append_toArray, List.nil_append, List.cons_append]
  have hq := seq2_not_nil
  gi_wp2
  rw [← HW1.out]
  first
    | refine ⟨trivial, (fun h => by cases h), (callsIn_wide.2 HC.out).mono ?_⟩
    | refine ⟨trivial, (callsIn_wide.2 HC.out).mono ?_⟩
    | refine (callsIn_wide.2 HC.out).mono ?_
  rintro e w2 ⟨hb2, gf, lb, rfl, hfn, heg, hst⟩
  have hbw := HBW.out.trans (hb2.mono HBW.out.size)
  have hsz : w.heap.size + 2 ≤ w2.heap.size := by have := hb2.size; rw [HZ1.out] at this; exact this
  have hb2s : Boxed w2 (w.heap.size + 1) 77 (.slice none 0 0) := (hb2.block _ HB1.out.lt).trans HB1.out
  have hLK : ∀ t W, (∀ k, t = some k → w2.heap.size ≤ k ∧ k < W.heap.size) → Below w2.heap.size w2 W → LK w w2.heap.size mi t [] (.slice none 0 0) W := fun t W h1 h3 =>
    ⟨(h3.block _ (by have := HB0.out.lt; have := hb2.size; omega)).trans ((hb2.block _ HB0.out.lt).trans HB0.out), (h3.block _ hb2s.lt).trans hb2s, World.ownsRow_nil _ _ _ _, by simpa using hmi2.1, hbw.trans (h3.mono hbw.size), h3.size, fun k hk => ⟨(h1 k hk).1, (h1 k hk).2, by simp [Value.ownBlock]⟩⟩
  have HST := hid (hst (n - 1) (by omega))
  have HFN := hid hfn
  have HEG := hid heg
  have HLK := hid hLK
  have HZ := hid hsz
  have HEX := hid (show ∀ b, exS S w1 w2 b → b ≠ w.heap.size + 1 ∧ b < w2.heap.size from fun b hb => by
    rcases hb with hb | hb
    · have h1 := HLT.out b hb
      exact ⟨by omega, by omega⟩
    · have := HZ1.out
      exact ⟨by omega, hb.2⟩)
  clear hst hfn heg hLK hbw hb2s hb2 HC HW1 HB0 HB1 hsz HLT
  gi_wp2
  clear hq
  refine rangeFunc_x rfl h1 (gf := gf) (lb := lb) rfl HFN.out HEG.out
    HST.out (fun _ _ _ h => h.1) (fun _ {A B C} h k => KS.t h k) (fun _ W l o o' _ h2 h3 _ => KS.b _ W l o o' h2 h3) (fun _ => rfl)
    (fun t pre Wc => ∃ lv, LK w w2.heap.size mi t pre lv Wc) (fun c pre Wc => c = .exit 0 ∧ ∃ t pre1 x lv, pre = pre1 ++ [x] ∧ ((pre1.length : Int) = mi ∨ x.2 ≠ pre1.length) ∧ LK w w2.heap.size mi t pre1 lv Wc)
    (fun _ _ _ _ _ ⟨lv, h⟩ hg hr => ⟨lv, h.kept hg (fun r e => ⟨by have := (hr r e).1; have := HZ.out; omega, (hr r e).2⟩)⟩)
    (fun _ _ _ _ _ ⟨hc, t, p1, x, lv, h1, h2, h3⟩ hg hr => ⟨hc, t, p1, x, lv, h1, h2, h3.kept hg (fun r e => ⟨by have := (hr r e).1; have := HZ.out; omega, (hr r e).2⟩)⟩)
    (fun _ _ _ _ => trivial) (fun _ _ => trivial) (fun t W1 W hb _ ⟨h3, h1⟩ => ⟨_, HLK.out t W (fun k hk => ⟨Nat.le_trans hb.size (h1 k hk).1, (h1 k hk).2⟩) (hb.trans (h3.mono hb.size))⟩)
    (fun t pre x a' Wc => ∃ lv Bx, LK w w2.heap.size mi t pre lv Wc ∧ Wc.heap[Bx]? = some (.cells #[.int .i64 x.1.kind, .int .u64 x.1.h] 67 (0, 0)) ∧ a' = { tmps := #[.pointer (some ⟨pb, 0, none⟩), .int .u64 h, .int .i64 mi, undef, undef, .pointer (some ⟨w.heap.size, 0, none⟩), .slice none 0 0, .pointer (some ⟨w.heap.size + 1, 0, none⟩), .func (.func gf) #[] lb, .int .i64 (x.2 : Int), .pointer (some ⟨Bx, 0, none⟩), .pointer (some ⟨pb, 0, none⟩), .int .u64 h, .func (.func gf) #[] lb, .func (.func gf) #[] lb, .bool true, .func (.func gf) #[] lb, .int .i64 (x.2 : Int), .agg #[.int .i64 x.1.kind, .int .u64 x.1.h], undef, undef, undef, undef, undef, undef, undef, undef, undef, undef, undef, undef, undef, undef, undef], defers := [] })
    (fun _ pre x a' _ X Y row hs hg hr => by
      obtain ⟨lv, Bx, e0, e2, e3⟩ := hs
      exact ⟨lv, Bx, e0.kept hg (fun r e => ⟨by have := (hr r e).1; have := HZ.out; omega, (hr r e).2⟩), heap_kept e2 hg (not_cells e2 (fun r e => (hr r e).2)), e3⟩)
    ?assign ?body ?done ?stop
  case assign =>
    rintro lo t pre x Wc K ⟨lv, hci⟩ _ hK
    simp only [encL]
    have HCI := hid hci
    have HKK := hid hK
    clear hci hK
    gi_wp2
    exact HKK.out _ _ ((KeepsOthers.alloc _ _).from _) ((KS.refl _ Wc).alloc _)
      ⟨lv, Wc.heap.size, HCI.out.kept (World.grownBy_alloc Wc _ none) (fun r e => by cases e), heap_alloc_new _ _, rfl⟩
  case body =>
    rintro lo t pre x a' Wc hl ⟨r, hr⟩ _ ⟨lv, Bx, H, bX, rfl⟩
    have e0 := H.b0.cell
    have e1 := H.b1.cell
    have f1 := H.b1.frozen
    have c0 : Wc.cell? ⟨Bx, 0, none⟩ = some (.int .i64 x.1.kind) := by simp [World.cell?, bX]
    have c1 : Wc.cell? ⟨Bx, 1, none⟩ = some (.int .u64 x.1.h) := by simp [World.cell?, bX]
    have hml := H.ml
    obtain ⟨la, lk, rfl⟩ := own_form H.r1
    have HH := hid H
    obtain ⟨⟨xk, xh⟩, xi⟩ := x
    simp only at c0 c1
    obtain ⟨N, hN⟩ : ∃ N, N = pre.length := ⟨_, rfl⟩
    have HN := hid hN
    rw [← hN] at e1 hml
    clear H bX hl hr hN
    by_cases hfull : (N : Int) = mi
    · have hge : decide (mi ≤ (N : Int)) = true := by simp; omega
      have HF := hid hfull
      clear hfull
      gi_wp2
      exact ⟨KeepsFrom.refl _ _, rfl, t, pre, _, _, rfl, .inl (by rw [← HN.out]; exact HF.out), HH.out⟩
    · have hge : decide (mi ≤ (N : Int)) = false := by simp; omega
      have hlt : (N : Int) < mi := by omega
      clear hfull
      by_cases hix : xi = N
      · have hne : ((xi : Int) != (N : Int)) = false := by simp [hix]
        have H := HH.out
        have hsz := H.sz
        have hzz := HZ.out
        have hrow := H.r1
        rw [← HN.out] at hrow
        have hbx := H.b1
        rw [← HN.out] at hbx
        have HROW := hid hrow
        have HBX := hid hbx
        have HIX := hid hix
        clear hix hrow hbx
        gi_wp2_with (first
          | (gi_at_builtin; refine wpListIn_append_at _ rfl _ _ 77 rfl w2.heap.size 67 i0 (.agg #[.int .i64 0, .int .u64 0]) 2 16 Try.underlying77 hi hz0 hz1 hz2 rfl (by decide) _ _ _ rfl (HROW.out.alloc _) ⟨Wc.heap.size, 0, none⟩ 1 1 [.int .i64 xk, .int .u64 xh] rfl rfl (World.news_of_block (heap_alloc_new Wc _)) (by simp [Value.oneCell']) (by simp only [maxLen]; omega) (by omega) (by simp; omega) ?_; intro v' w3 hown' hgrow hat; obtain ⟨g', cap', rfl⟩ := ownsRow_succ hown'; obtain ⟨p1, p2, p3, p4, p5, p6, p7⟩ := box_push HBX.out (by decide) HROW.out hown' hgrow; have hc1 := p1.cell; have hf1 := p1.frozen))
        have htt := H.tt
        rw [← HN.out] at htt
        refine ⟨p4.from _, ?_, _, p7 _ _ _ H.b0 (by omega) (by omega), p2, ?_, ?_, H.below.trans (p6 _ (by omega) (by omega) H.below.size), Nat.le_trans hsz p4.size, fun k hk => ⟨(htt k hk).1, Nat.lt_of_lt_of_le (htt k hk).2.1 p4.size, ?_⟩⟩
        · exact (((KS.refl _ Wc).alloc _).grown hgrow (fun k ek e2 => (htt k e2).2.2 ek)).set _ _ (fun e => by have h5 : w2.heap.size ≤ w.heap.size + 1 := (htt _ e).1; omega)
        · rw [List.length_append, List.length_singleton, ← HN.out, lkc_app]; exact p3
        · rw [List.length_append, List.length_singleton, ← HN.out]; omega
        · intro e
          rcases hat with e2 | e2
          · rw [e] at e2; exact (htt k hk).2.2 e2.symm
          · rw [e] at e2; have := (htt k hk).2.1; simp at e2; omega
      · have hne : ((xi : Int) != (N : Int)) = true := by simp; omega
        have HF := hid hix
        clear hix
        gi_wp2
        exact ⟨KeepsFrom.refl _ _, rfl, t, pre, _, _, rfl, .inr (by rw [← HN.out]; exact HF.out), HH.out⟩
  case done =>
    rintro D t Wc hD ⟨lv, H⟩ hK
    have e1 := H.b1.cell
    have HH := hid H
    clear H
    gi_wp2
    refine ⟨by simp, .inl ⟨_, _, rfl, run_takeDeferred hK, ?_⟩⟩
    have H2 := HH.out.kept (grownBy_putObj' Wc D (.deferred none)) (fun r e => by cases e; exact ⟨by have := HZ.out; omega, _, hK, rfl⟩)
    refine ⟨_, results_tmp rfl _ _ _, H2.below, lv, rfl, ?_⟩
    have ht := ToldL.of_own H2.r1
    have hml := H2.ml
    rw [List.length_zipIdx] at hml
    rw [List.zipIdx_map_fst] at ht
    rw [List.take_of_length_le (by have := HM.out; omega)]
    exact ht
  case stop =>
    rintro D c pre Wc hD hp ⟨rfl, t, p1, x, lv, rfl, hm, H⟩ hK
    have e1 := H.b1.cell
    have HH := hid H
    have HS := hid hp
    have HMM := hid hm
    clear H hp hm
    gi_wp2
    refine ⟨by simp, .inl ⟨_, _, rfl, run_takeDeferred hK, ?_⟩⟩
    have H2 := HH.out.kept (grownBy_putObj' Wc D (.deferred none)) (fun r e => by cases e; exact ⟨by have := HZ.out; omega, _, hK, rfl⟩)
    refine ⟨_, results_tmp rfl _ _ _, H2.below, lv, rfl, ?_⟩
    have ht := ToldL.of_own H2.r1
    have hpl := (HS.out).length_le
    rw [List.length_append, List.length_singleton, List.length_zipIdx] at hpl
    have hxi : L.zipIdx[p1.length]? = some x := by
      obtain ⟨r, hr⟩ := HS.out
      rw [← hr, List.append_assoc, List.getElem?_append_right (Nat.le_refl _)]
      simp
    have hx2 : x.2 = p1.length := by
      rw [List.getElem?_zipIdx, Option.map_eq_some_iff] at hxi
      obtain ⟨z, _, rfl⟩ := hxi
      simp
    have hlen : p1.length = m := by
      rcases HMM.out with h1 | h1
      · have := HM.out; omega
      · exact absurd hx2 h1
    have hpr := List.prefix_iff_eq_take.1 ((List.prefix_append p1 [x]).trans HS.out)
    rw [hpr, List.map_take, List.zipIdx_map_fst, hlen] at ht
    exact ht
theorem LnC.by_calls {w0 : World} {Rp : (Nat → Prop) → World → Value → Hs → Prop} (HB : HeapB w0 Rp) (HS : SlC w0 Rp) : LnC w0 Rp := fun S w p s h m hB hR hh hm =>
  (callsIn_wide (n := 4)).1 (links_in 4 (by omega) w0 Rp HB HS S w p s h m hB hR hh hm)
end Go.Proofs.Ytmkajdfajcodjaa

namespace Go.Proofs.Ytmkajdfajcodjaa
open Go Go.ChangeShapes Go.WideShapes Go.ChangeAt Go.RowKit Go.Shelf
attribute [local go_sem] Oper.semAt_some

theorem rowsL_nil (W : World) : (binOp .eql 77 (.slice none 0 0) (.slice none 0 0)).run Try.prog W = .ok (.bool true) W := by kernel_rfl
theorem rowsL_not (a : Addr) (n k : Nat) (W : World) : (binOp .eql 77 (.slice (some a) n k) (.slice none 0 0)).run Try.prog W = .ok (.bool false) W := by kernel_rfl
def ClonePostL (w : World) (n : Nat) (xs : List Value) (e : Ending) (w' : World) : Prop := ∃ v, e = .returned v ∧ w'.ownsRow w.heap.size 67 2 v n xs ∧ Below w.heap.size w w'
theorem CloneL_any (w : World) (B : Nat) (cv : Value) (n : Nat) (xs : List Value) (h : w.ownsRow B 67 2 cv n xs) (hn : n ≤ 65536) (h1 : ∀ u ∈ xs, u.oneCell' = true) :
    Calls Try.prog 69 #[cv] w (ClonePostL w n xs) := by
  rcases h.2 with ⟨rfl, rfl⟩ | ⟨g, cap, cur, rfl, hb, hg, hnc, hcm, hcs, htake⟩
  · have hx : xs = [] := List.eq_nil_of_length_eq_zero (by simpa using h.1)
    subst hx
    clear h
    have hq := rowsL_nil
    go_enter Try.func69, Try.ntmps69
    go_wp2
    go_ret
    exact ⟨_, rfl, World.ownsRow_nil _ _ _ _, Below.refl _ _⟩
  · have hcell := h.cells (g := g) rfl
    have hl := h.1
    obtain ⟨i0, hi, hz0, hz1, hz2⟩ := info_parts infoLkB
    have hi' := hid hi
    have hz0' := hid hz0
    have hz1' := hid hz1
    have hz2' := hid hz2
    have HC := hid hcell
    have HL := hid hl
    have H1 := hid h1
    have hgl : g < w.heap.size := (Array.getElem?_eq_some_iff.1 hg).1
    clear hi hz0 hz1 hz2 hcell hl h1 h hg hcs htake hb hcm hnc
    go_enter Try.func69, Try.ntmps69
    have hq := rowsL_not
    have hnews : ∀ o : Obj, ∀ (j : Nat) (u : Value), xs[j]? = some u → (w.alloc o).cell? ((⟨g, 0, none⟩ : Addr).add j) = some u := fun o j u hu => by
      rw [World.cell?_of_block (Below.heap_alloc w o _ (by rw [addr_block]; exact hgl))]
      exact HC.out j u hu
    have HNW := hid hnews
    clear hnews
    go_wp2_with (at_builtin; refine wpList_append_own _ (o := ⟨some 7, _, _, _, _, _⟩) rfl (.tmp 5) (.tmp 6) 77 rfl w.heap.size 67 i0 (.agg #[.int .i64 0, .int .u64 0]) 2 16 Try.underlying77 hi'.out hz0'.out hz1'.out hz2'.out rfl (by decide) (.slice (some ⟨w.heap.size, 0, none⟩) 0 0) 0 [] rfl (World.ownsRow_made w #[] 0 (Nat.le_refl _) (Nat.zero_le _) rfl) ⟨g, 0, none⟩ n cap xs rfl HL.out (HNW.out _) H1.out (by unfold maxLen; omega) (by omega) (by simp) ?_; intro v5 w5 hown5 hgrow5 hnil5)
    have HO := hid hown5
    have HG := hid hgrow5
    clear hown5 hgrow5 hnil5
    go_ret
    refine ⟨_, rfl, ?_, ((Below.refl _ _).alloc (Nat.le_refl _) _).grown HG.out (by simp) (fun k hk => by simp [Value.ownBlock] at hk; omega)⟩
    have := HO.out
    rw [Nat.zero_add, List.nil_append] at this
    exact this
theorem HLinks_any (w : World) (p : Nat) (hd : Int) : Calls Try.prog 57 #[.pointer (some ⟨p, 0, none⟩), .int .u64 hd] w fun e w' => e = .returned (.func (.func 68) #[] #[.pointer (some ⟨w.heap.size, 0, none⟩), .pointer (some ⟨w.heap.size + 1, 0, none⟩)]) ∧ w' = (w.alloc (.cells #[.pointer (some ⟨p, 0, none⟩)] 24)).alloc (.cells #[.int .u64 hd] 34) := by
  go_enter Try.func57, Try.ntmps57
  go_wp2
  go_ret
  exact ⟨rfl, rfl⟩
theorem zip_take {α : Type} (l : List α) (q : Nat) (x : α) (h : l[q]? = some x) : l.zipIdx.take (q + 1) = l.zipIdx.take q ++ [(x, q)] := by
  rw [List.take_add_one, List.getElem?_zipIdx, h]
  simp
set_option maxRecDepth 100000 in
set_option maxHeartbeats 4000000 in
theorem links_tells (n b1 b2 p pa : Nat) (hd : Int) (hh : Hn hd) {Sa : Nat → Prop} {AA : Ar} {F : Nat → Lab} {B : Int → Nat} {top : Int} {L : HL} (w : World) (hb1 : Boxed w b1 24 (.pointer (some ⟨p, 0, none⟩))) (hb2 : Boxed w b2 34 (.int .u64 hd)) (h : HpW w p pa Sa AA F B top L) (hi : HIn top L) :
    TellsX Fence.wide n Try.prog 68 #[.pointer (some ⟨b1, 0, none⟩), .pointer (some ⟨b2, 0, none⟩)] encL OkT KpT (fun _ _ => True) (linksOf L hd).zipIdx w := by
  intro lp J Jx W hW hJ hJx _ _ hY hOk
  show CallsIn Fence.wide n Try.prog 68 #[.func (.yield lp) #[] #[], .pointer (some ⟨b1, 0, none⟩), .pointer (some ⟨b2, 0, none⟩)] W (PartPost J Jx (linksOf L hd).zipIdx)
  have d1 : W.cell? ⟨b1, 0, none⟩ = some (.pointer (some ⟨p, 0, none⟩)) := Boxed.cell ((hW.block b1 hb1.lt).trans hb1)
  have d2 : W.cell? ⟨b2, 0, none⟩ = some (.int .u64 hd) := Boxed.cell ((hW.block b2 hb2.lt).trans hb2)
  have hp : HpW W p pa Sa AA F B top L := h.fr (fp := fun _ => False) (Fr.of_below hW) (fun e => e) (fun _ _ e => e) (fun _ _ _ _ _ e => e) (fun _ _ => rfl)
  have HY := hid hY
  have HJJ := hid hJ
  have HJX := hid hJx
  have HOK := hid hOk
  cases hf : fnd L hd with
  | none =>
    have HF := hid (find_none hp (fun o ho => fnd_none.1 hf o ho) hh)
    have hl : linksOf L hd = [] := by unfold linksOf; rw [hf]
    have HL := hid hl
    clear hY hJ hJx hOk h hi hp hb1 hb2 hW hf hl hh
    refine callsIn_of_wp Try.func68 rfl trivial ?_ rfl
    simp only [Try.ntmps68, List.size_toArray, List.length_cons, List.length_nil, Nat.reduceAdd, Nat.reduceSub, Array.replicate_succ, Array.replicate_zero, List.push_toArray, List.append_toArray, List.nil_append, List.cons_append]
    gi_wp2
    refine ⟨trivial, (fun h => by cases h), (callsIn_wide.2 HF.out).mono ?_⟩
    rintro e w' ⟨rfl, rfl⟩
    gi_wp2
    refine bodyPost_ret (results_none rfl _ _ _) rfl ?_
    exact ⟨⟨_, rfl⟩, .inl ⟨none, by rw [HL.out]; exact HOK.out none _ ⟨Below.refl _ _, fun k hk => by cases hk⟩⟩⟩
  | some o =>
    obtain ⟨ho, he⟩ := fnd_some hf
    have hF := find_some hp ho
    rw [he] at hF
    have HF := hid hF
    obtain ⟨sv, iv, c, hob⟩ := hp.ob o ho
    rw [he] at hob
    have c0 := hob.c0
    have h8 := (hi.lnk o ho).1
    have HCL := hid (CloneL_any W 0 sv o.links.length (lkv o.links) hob.hs (by omega) (lkv_one _))
    have hl : linksOf L hd = o.links := by unfold linksOf; rw [hf]
    rw [hl] at HY ⊢
    obtain ⟨l, hll⟩ : ∃ l, l = o.links := ⟨_, rfl⟩
    rw [← hll] at HY HCL ⊢
    obtain ⟨N, hN⟩ : ∃ N, N = l.length := ⟨_, rfl⟩
    rw [← hll, ← hN] at h8
    rw [← hN] at HCL
    have HN := hid hN
    clear hY hJ hJx hOk h hi hp hb1 hb2 hW hf hl hh hF hob ho he hll hN
    refine callsIn_of_wp Try.func68 rfl trivial ?_ rfl
    simp only [Try.ntmps68, List.size_toArray, List.length_cons, List.length_nil, Nat.reduceAdd, Nat.reduceSub, Array.replicate_succ, Array.replicate_zero, List.push_toArray, List.append_toArray, List.nil_append, List.cons_append]
    gi_wp2
    refine ⟨trivial, (fun h => by cases h), (callsIn_wide.2 HF.out).mono ?_⟩
    rintro e w' ⟨rfl, rfl⟩
    gi_wp2
    refine ⟨trivial, (fun h => by cases h), (callsIn_wide.2 HCL.out).mono ?_⟩
    rintro e W1 ⟨v1, rfl, hrow, hbl⟩
    obtain ⟨ra, rc, rfl⟩ := own_form hrow
    obtain ⟨t, ht⟩ : ∃ t : Option Nat, t = (Value.slice ra N rc).ownBlock := ⟨_, rfl⟩
    have hOk1 : OkT t W W1 := ⟨hbl, fun k hk => by rw [ht] at hk; exact hrow.lt k hk⟩
    have J0 := hid (HOK.out t W1 hOk1)
    have HT := hid ht
    have HROW := hid hrow
    clear hrow hbl ht hOk1 HCL HF c0 d1 d2
    gi_wp2
    gi_loopw [18] (fun i wr => ∃ q : Nat, q ≤ N ∧ i = .int .i64 q ∧ RowKit.Hid (J t (l.zipIdx.take q) wr) ∧ RowKit.Hid (wr.ownsRow W.heap.size 67 2 (.slice ra N rc) N (lkv l))) (fun i _ => N - (intOf i).toNat)
    case atStart => exact ⟨0, Nat.zero_le _, rfl, hid (by simpa using J0.out), HROW⟩
    case round =>
      obtain ⟨q, hq, rfl, HJq, HRq⟩ := hrel
      by_cases hql : q < N
      · have hqL : q < l.length := by rw [← HN.out]; exact hql
        have hs : l[q]? = some l[q] := List.getElem?_eq_getElem hqL
        generalize l[q] = x at hs
        obtain ⟨g, k', hvf, _⟩ := HRq.out.form (by omega)
        simp only [Value.slice.injEq] at hvf
        obtain ⟨rfl, -, rfl⟩ := hvf
        obtain ⟨e1, e2⟩ := lkv_at l q x hs
        have m0 : wr.cell? ⟨g, q * 2, none⟩ = some (.int .i64 x.kind) := by rw [HRq.out.cellAt _ (by omega)]; exact e1
        have m1 : wr.cell? ⟨g, q * 2 + 1, none⟩ = some (.int .u64 x.h) := by rw [HRq.out.cellAt _ (by omega)]; exact e2
        have hz := zip_take l q x hs
        obtain ⟨w3, hw3⟩ : ∃ w3, w3 = wr.alloc (.cells #[.int .i64 x.kind, .int .u64 x.h] 67) := ⟨_, rfl⟩
        have hb3 : Below wr.heap.size wr w3 := by rw [hw3]; exact (Below.refl _ _).alloc (Nat.le_refl _) _
        have J3 := HJJ.out t _ _ _ _ HJq.out (grown_of_below hb3) (fun r e => by cases e)
        have hrow3 : w3.ownsRow W.heap.size 67 2 (.slice (some ⟨g, 0, none⟩) N rc) N (lkv l) := by rw [hw3]; exact HRq.out.alloc _
        have hpx : l.zipIdx.take q ++ [(x, q)] <+: l.zipIdx := by rw [← hz]; exact List.take_prefix _ _
        obtain ⟨fn, tmps, assign, body, hy, hRd⟩ := HY.out t _ (x, q) w3 J3 hpx
        simp only [encL] at hy
        have HRD := hid hRd
        have HZ := hid hz
        have HPX := hid hpx
        have HR3 := hid hrow3
        have HW3 := hid hw3
        clear hRd hz hpx hrow3 hb3 J3 hs hqL e1 e2
        gi_upto_region 5 with (fail)
        rw [← HW3.out]
        have cb0 : w3.cell? ⟨wr.heap.size, 0, none⟩ = some (.int .i64 x.kind) := by rw [HW3.out, cell_of_row _ _ 0 _ _ _ (heap_alloc_new _ _)]; rfl
        have cb1 : w3.cell? ⟨wr.heap.size, 1, none⟩ = some (.int .u64 x.h) := by rw [HW3.out, cell_of_row _ _ 1 _ _ _ (heap_alloc_new _ _)]; rfl
        clear m0 m1 hw3
        gi_wp2
        refine ⟨(fun h => by cases h), HRD.out.mono ?_⟩
        rintro e W4 (⟨rfl, hJ4, hk4, _⟩ | ⟨rfl, hJx4, _⟩)
        · have J4 := hid hJ4
          have hrow4 : W4.ownsRow W.heap.size 67 2 (.slice (some ⟨g, 0, none⟩) N rc) N (lkv l) := by
            refine ⟨HR3.out.1, ?_⟩
            rcases HR3.out.2 with ⟨e, _⟩ | ⟨g', cap, cur, e, hb, hg, rest⟩
            · cases e
            · cases e
              exact .inr ⟨g, rc, cur, rfl, hb, hk4 _ _ _ _ (by rw [HT.out]; rfl) hg, rest⟩
          have R4 := hid hrow4
          clear hJ4 hk4 hrow4 cb0 cb1
          gi_wp2
          go_roundw
          case rel => exact ⟨q + 1, by omega, by go_num, by rw [HZ.out]; exact J4, R4⟩
          case measure => simp [intOf]; omega
        · have J4 := hid hJx4
          clear hJx4 cb0 cb1
          gi_wp2
          refine bodyPost_ret (results_none rfl _ _ _) rfl ?_
          exact ⟨⟨_, rfl⟩, .inr ⟨_, HPX.out, J4.out⟩⟩
      · obtain rfl : q = N := by omega
        have hall : l.zipIdx.take q = l.zipIdx := List.take_of_length_le (by rw [List.length_zipIdx, ← HN.out]; exact Nat.le_refl _)
        have HA := hid hall
        clear hall
        gi_wp2
        go_end0
        exact ⟨⟨_, rfl⟩, .inl ⟨t, by have := HJq.out; rw [HA.out] at this; exact this⟩⟩
end Go.Proofs.Ytmkajdfajcodjaa
