/- AeF AeI AeL in one -/
import Derived.Test.YtmampaglemleoabAeD
import Derived.Test.YtmampaglemleoabRng
import Derived.Test.YtmampaglemleoabMixG
import Derived.Test.YtmampaglemleoabArP
import Derived.Test.YtmampaglemleoabKT
import Derived.Test.YtmampaglemleoabMemX
namespace Go.Proofs.Ytmampaglemleoab
open Go.ChangeShapes Go.WideShapes Go.ChangeAt Go.RowKit

theorem addr_block (a : Addr) (n : Nat) : (a.add n).block = a.block := by unfold Addr.add; split <;> rfl
theorem rowsE_nil (W : World) : (binOp .eql 87 (.slice none 0 0) (.slice none 0 0)).run Try.prog W = .ok (.bool true) W := by kernel_rfl
theorem rowsE_not (a : Addr) (n k : Nat) (W : World) : (binOp .eql 87 (.slice (some a) n k) (.slice none 0 0)).run Try.prog W = .ok (.bool false) W := by kernel_rfl
def ClonePostE (w : World) (n : Nat) (xs : List Value) (e : Ending) (w' : World) : Prop := ∃ v, e = .returned v ∧ w'.ownsRow w.heap.size 101 3 v n xs ∧ Below w.heap.size w w'
theorem CloneE_any (w : World) (B : Nat) (cv : Value) (n : Nat) (xs : List Value) (h : w.ownsRow B 101 3 cv n xs) (hn : n ≤ 65536) (h1 : ∀ u ∈ xs, u.oneCell' = true) :
    Calls Try.prog 41 #[cv] w (ClonePostE w n xs) := by
  rcases h.2 with ⟨rfl, rfl⟩ | ⟨g, cap, cur, rfl, hb, hg, hnc, hcm, hcs, htake⟩
  · have hx : xs = [] := List.eq_nil_of_length_eq_zero (by simpa using h.1)
    subst hx
    clear h
    have hq := rowsE_nil
    go_enter Try.func41, Try.ntmps41
    go_wp2
    go_ret
    exact ⟨_, rfl, World.ownsRow_nil _ _ _ _, Below.refl _ _⟩
  · have hcell := h.cells (g := g) rfl
    have hl := h.1
    obtain ⟨i0, hi, hz0, hz1, hz2⟩ := info_parts infoCE
    have hi' := hid hi
    have hz0' := hid hz0
    have hz1' := hid hz1
    have hz2' := hid hz2
    have HC := hid hcell
    have HL := hid hl
    have H1 := hid h1
    have hgl : g < w.heap.size := (Array.getElem?_eq_some_iff.1 hg).1
    clear hi hz0 hz1 hz2 hcell hl h1 h hg hcs htake hb hcm hnc
    go_enter Try.func41, Try.ntmps41
    have hq := rowsE_not
    have hnews : ∀ o : Obj, ∀ (j : Nat) (u : Value), xs[j]? = some u → (w.alloc o).cell? ((⟨g, 0, none⟩ : Addr).add j) = some u := fun o j u hu => by
      rw [World.cell?_of_block (Below.heap_alloc w o _ (by rw [addr_block]; exact hgl))]
      exact HC.out j u hu
    have HNW := hid hnews
    clear hnews
    go_wp2_with (at_builtin; refine wpList_append_own _ (o := ⟨some 7, _, _, _, _, _⟩) rfl (.tmp 5) (.tmp 6) 87 rfl w.heap.size 101 i0 (.agg #[.pointer none, .int .u32 0, .bool false]) 3 16 Try.underlying87 hi'.out hz0'.out hz1'.out hz2'.out rfl (by decide) (.slice (some ⟨w.heap.size, 0, none⟩) 0 0) 0 [] rfl (World.ownsRow_made w #[] 0 (Nat.le_refl _) (Nat.zero_le _) rfl) ⟨g, 0, none⟩ n cap xs rfl HL.out (HNW.out _) H1.out (by unfold maxLen; omega) (by omega) (by simp) ?_; intro v5 w5 hown5 hgrow5 hnil5)
    have HO := hid hown5
    have HG := hid hgrow5
    clear hown5 hgrow5 hnil5
    go_ret
    refine ⟨_, rfl, ?_, ((Below.refl _ _).alloc (Nat.le_refl _) _).grown HG.out (by simp) (fun k hk => by simp [Value.ownBlock] at hk; omega)⟩
    have := HO.out
    rw [Nat.zero_add, List.nil_append] at this
    exact this
end Go.Proofs.Ytmampaglemleoab

namespace Go.Proofs.Ytmampaglemleoab
open Go.ChangeShapes Go.WideShapes Go.ChangeAt Go.RowKit Go.Shelf
attribute [local go_sem] Oper.semAt_some

/-- The handles of what is taken, and what they find, from a place on. -/
def pairF : Nat → List Spot → List (Int × Int)
  | _, [] => []
  | k, s :: L => if s.t then (hand k s.g, s.x) :: pairF (k + 1) L else pairF (k + 1) L
theorem pairF_append (k : Nat) (M N : List Spot) : pairF k (M ++ N) = pairF k M ++ pairF (k + M.length) N := by
  induction M generalizing k with
  | nil => simp [pairF]
  | cons a M ih =>
    simp only [List.cons_append, pairF, ih (k + 1), List.length_cons]
    have e : k + 1 + M.length = k + (M.length + 1) := by omega
    rw [e]
    cases a.t <;> simp
theorem pairF_take (L : List Spot) (q : Nat) : pairF 0 (L.take q) <+: pairF 0 L := by
  have := pairF_append 0 (L.take q) (L.drop q)
  rw [List.take_append_drop] at this
  exact ⟨_, this.symm⟩
/-- What a loop's body keeps: the rows of places. -/
def KCE (W W' : World) : Prop := ∀ (k : Nat) (cs : Array Value), W.heap[k]? = some (.cells cs 101 (0, 0)) → W'.heap[k]? = some (.cells cs 101 (0, 0))
theorem KCE.t {A B C : World} (h : KCE A B) (k : KCE B C) : KCE A C := fun j cs hj => k j cs (h j cs hj)
theorem KCE.b (W : World) (l : Nat) (o o' : Obj) (h : W.heap[l]? = some o) (hc : o.isCells = false) : KCE W (W.putObj l o') := fun k cs hk => by
  have hne : k ≠ l := fun e => by subst e; rw [hk] at h; cases h; cases hc
  rw [World.putObj_heap_other hne]; exact hk

theorem KCE.owns {W W' : World} {B : Nat} {v : Value} {n : Nat} {xs : List Value} (h : KCE W W') (ho : W.ownsRow B 101 3 v n xs) : W'.ownsRow B 101 3 v n xs := by
  refine ⟨ho.1, ?_⟩
  rcases ho.2 with e | ⟨g, cap, cur, e, hb, hg, rest⟩
  · exact .inl e
  · exact .inr ⟨g, cap, cur, e, hb, h g cur hg, rest⟩
def IterPost (A : Ar) (J Jx : List (Int × Int) → World → Prop) (e : Ending) (W' : World) : Prop := (∃ v, e = .returned v) ∧ ((∃ ys, ys = pairF 0 A.L ∧ J ys W') ∨ (∃ pre, pre <+: pairF 0 A.L ∧ Jx pre W'))
set_option maxHeartbeats 1000000 in
theorem iter_any (n l Bn p : Nat) (S : Nat → Prop) (A : Ar) (J Jx : List (Int × Int) → World → Prop)
    (hY : ∀ pre (x : Int × Int) W, J pre W → pre ++ [x] <+: pairF 0 A.L → YieldAt Fence.wide (n - 1) Try.prog l #[.int .u64 x.1, encE x.2] W fun e W' =>
      (e = .returned (.bool true) ∧ J (pre ++ [x]) W' ∧ KCE W W') ∨ (e = .returned (.bool false) ∧ Jx (pre ++ [x]) W'))
    (W : World) (hBn : W.cell? ⟨Bn, 0, none⟩ = some (.pointer (some ⟨p, 0, none⟩))) (hI : InS S W p A) (hJ : ∀ s W W', J s W → Below W.heap.size W W' → J s W') (h0 : J [] W) :
    CallsIn Fence.wide n Try.prog 40 #[.func (.yield l) #[] #[], .pointer (some ⟨Bn, 0, none⟩)] W (IterPost A J Jx) := by
  obtain ⟨cv, fv, h1, h2, h3, h4, h5, h6⟩ := hI
  have c2 := h1.c2
  have hl := Nat.le_trans h2.len h2.m2
  have h1c := rowE_one A.L
  have hcl := CloneE_any W 0 cv A.L.length (rowE A.L) h1.hc hl h1c
  have HCL := hid hcl
  have HA := hid h2
  have HY := hid hY
  have HJ := hid hJ
  have H0 := hid h0
  clear h1 h2 h4 h5 h6 h1c hcl hY hJ h0
  obtain ⟨N, hN⟩ : ∃ N, N = A.L.length := ⟨_, rfl⟩
  have HN := hid hN
  refine callsIn_of_wp Try.func40 rfl trivial ?_ rfl
  simp only [Try.ntmps40, List.size_toArray, List.length_cons, List.length_nil, Nat.reduceAdd, Nat.reduceSub, Array.replicate_succ, Array.replicate_zero, List.push_toArray, List.append_toArray, List.nil_append, List.cons_append]
  rw [← hN] at hl
  clear hN
  gi_wp2
  refine ⟨trivial, (fun h => by cases h), ?_⟩
  refine (callsIn_wide.2 HCL.out).mono ?_
  rintro e W1 ⟨v1, rfl, hrow, hb1⟩
  obtain ⟨va, vk, hv1⟩ : ∃ a k, v1 = .slice a N k := by
    rw [HN.out]
    rcases hrow.2 with ⟨e1, e2⟩ | ⟨g, cap, _, e1, _⟩
    · exact ⟨none, 0, by rw [e1, e2]⟩
    · exact ⟨_, cap, e1⟩
  subst hv1
  have J1 := hid (HJ.out [] W W1 H0.out hb1)
  rw [← HN.out] at hrow
  have HR := hid hrow
  clear hrow hb1 HCL
  gi_wp2
  gi_loopw [13] (fun i wr => ∃ q : Nat, q ≤ N ∧ i = .int .i64 q ∧ RowKit.Hid (J (pairF 0 (A.L.take q)) wr) ∧ RowKit.Hid (wr.ownsRow W.heap.size 101 3 (.slice va N vk) N (rowE A.L))) (fun i _ => N - (intOf i).toNat)
  case atStart => exact ⟨0, Nat.zero_le _, rfl, hid (by simpa [pairF] using J1.out), HR⟩
  case round =>
    obtain ⟨q, hq, rfl, HJq, HRq⟩ := hrel
    by_cases hql : q < N
    · have hqL : q < A.L.length := by rw [← HN.out]; exact hql
      have hs : A.L[q]? = some A.L[q] := List.getElem?_eq_getElem hqL
      have htk : A.L.take (q + 1) = A.L.take q ++ [A.L[q]] := by rw [List.take_succ_eq_append_getElem hqL]
      generalize A.L[q] = s at hs htk
      have hgen := (HA.out.gen q s hs).2
      obtain ⟨g, k', hvf, _⟩ := HRq.out.form (by omega)
      simp only [Value.slice.injEq] at hvf
      obtain ⟨rfl, -, rfl⟩ := hvf
      have g0 : wr.cell? ⟨g, q * 3, none⟩ = some (encE s.x) := by
        rw [HRq.out.cellAt (q * 3) (by omega)]; exact rowE_at A.L q 0 s hs (by omega)
      have g1 : wr.cell? ⟨g, q * 3 + 1, none⟩ = some (.int .u32 s.g) := by
        rw [HRq.out.cellAt (q * 3 + 1) (by omega)]; exact rowE_at A.L q 1 s hs (by omega)
      have g2 : wr.cell? ⟨g, q * 3 + 2, none⟩ = some (.bool s.t) := by
        rw [HRq.out.cellAt (q * 3 + 2) (by omega)]; exact rowE_at A.L q 2 s hs (by omega)
      have HS := hid hs
      have HT := hid htk
      clear hs htk hqL
      have hpre : pairF 0 (A.L.take (q + 1)) = pairF 0 (A.L.take q) ++ (if s.t then [(hand q s.g, s.x)] else []) := by
        rw [HT.out, pairF_append]
        have e2 : 0 + (A.L.take q).length = q := by
          have := HN.out
          simp; omega
        rw [e2]
        simp only [pairF]
      have HPR := hid hpre
      clear hpre
      obtain ⟨sx, sg, st⟩ := s
      simp only at g0 g1 g2 hgen
      have hB2 : Below wr.heap.size wr (wr.alloc (.cells #[encE sx, .int .u32 sg, .bool st] 101)).drew := ((Below.refl _ _).alloc (Nat.le_refl _) _).drew
      have J2 := hid (HJ.out _ wr _ HJq.out hB2)
      have hx2 := heap_alloc_new wr (.cells #[encE sx, .int .u32 sg, .bool st] 101)
      have d0 : (wr.alloc (.cells #[encE sx, .int .u32 sg, .bool st] 101)).cell? ⟨wr.heap.size, 0, none⟩ = some (encE sx) := by rw [cell_of_row _ _ 0 _ 101 _ hx2]; rfl
      have d1 : (wr.alloc (.cells #[encE sx, .int .u32 sg, .bool st] 101)).cell? ⟨wr.heap.size, 1, none⟩ = some (.int .u32 sg) := by rw [cell_of_row _ _ 1 _ 101 _ hx2]; rfl
      have d2 : (wr.alloc (.cells #[encE sx, .int .u32 sg, .bool st] 101)).cell? ⟨wr.heap.size, 2, none⟩ = some (.bool st) := by rw [cell_of_row _ _ 2 _ 101 _ hx2]; rfl
      have R2 := hid ((HRq.out.alloc (.cells #[encE sx, .int .u32 sg, .bool st] 101)).drew)
      clear hB2 hx2
      gi_wp2
      obtain ⟨w2, hw2⟩ : ∃ w2, w2 = wr.alloc (.cells #[encE sx, .int .u32 sg, .bool st] 101) := ⟨_, rfl⟩
      rw [← hw2] at J2 d0 d1 d2 R2 ⊢
      obtain ⟨cb, hcb⟩ : ∃ cb, cb = wr.heap.size := ⟨_, rfl⟩
      rw [← hcb] at d0 d1 d2 ⊢
      clear hw2 hcb g0 g1 g2 HRq HJq
      cases st with
      | false =>
        have hpf : pairF 0 (A.L.take (q + 1)) = pairF 0 (A.L.take q) := by rw [HPR.out]; simp
        have HPF := hid hpf
        clear hpf HPR
        refine G.wp_region_mix [0, 1, 0, 0, 0, 0, 0, 0, 0, 0, 0, 0, 0] (fun W => W.cell? ⟨cb, 0, none⟩ = some (encE sx) ∧ W.cell? ⟨cb, 1, none⟩ = some (.int .u32 sg) ∧ W.cell? ⟨cb, 2, none⟩ = some (.bool false)) (by kernel_rfl) (by kernel_rfl) ⟨d0, d1, d2⟩ ?_
        repeat (first
          | (refine' E.wpMix_not (by decide) rfl _; simp only [Act.put, List.setIfInBounds_toArray, List.set_cons_zero, List.set_cons_succ])
          | (refine' E.wpMix_value _ rfl rfl _ _; rotate_left; (solve | (intro W; go_simp) | (intro W; go_simp; with_reducible rfl)); simp only [Act.put, List.setIfInBounds_toArray, List.set_cons_zero, List.set_cons_succ])
          | (refine' E.wpMix_read _ rfl rfl _ _; rotate_left; (solve | (rintro W ⟨h1, h2, h3⟩; go_simp) | (rintro W ⟨h1, h2, h3⟩; go_simp; with_reducible rfl)); simp only [Act.put, List.setIfInBounds_toArray, List.set_cons_zero, List.set_cons_succ]))
        refine E.wpMix_end ?_
        gi_wp2
        go_roundw
        case rel => exact ⟨q + 1, by omega, by go_num, by rw [HPF.out]; exact J2, R2⟩
        case measure => simp [intOf]; omega
      | true =>
        have hpf : pairF 0 (A.L.take (q + 1)) = pairF 0 (A.L.take q) ++ [(hand q sg, sx)] := by rw [HPR.out]; simp
        obtain ⟨hd, hhd⟩ : ∃ hd, hd = hand q sg := ⟨_, rfl⟩
        have hjn : ∀ W, Calls Try.prog 42 #[.int .i64 q, .int .u32 sg] W fun e w' => e = .returned (.int .u64 hd) ∧ W = w' := fun W => by
          have := join_any q sg W (by omega) (by omega) (by omega) (by omega)
          have e1 : (sg : Int) * 4294967296 + q + 1 = hd := by rw [hhd]; rfl
          rw [e1] at this; exact this
        rw [← hhd] at hpf
        have hlen : pairF 0 (A.L.take q) ++ [(hd, sx)] <+: pairF 0 A.L := by
          have h1 := pairF_take A.L (q + 1)
          rw [hpf] at h1
          exact h1
        have hy0 := HY.out (pairF 0 (A.L.take q)) (hd, sx) w2.drew J2.out hlen
        have HPF := hid hpf
        have HJN := hid hjn
        clear hpf HPR hhd hjn hlen
        obtain ⟨fn, tmps, assign, body, hy, hRd⟩ := hy0
        dsimp only at hy
        have HRD := hid hRd
        clear hRd
        refine G.wp_region_mix [0, 1, 0, 0, 0, 0, 1, 2, 0, 1, 3, 0, 0] (fun W => W.cell? ⟨cb, 0, none⟩ = some (encE sx) ∧ W.cell? ⟨cb, 1, none⟩ = some (.int .u32 sg) ∧ W.cell? ⟨cb, 2, none⟩ = some (.bool true)) (by kernel_rfl) (by kernel_rfl) ⟨d0, d1, d2⟩ ?_
        repeat (first
          | (refine' E.wpMix_not (by decide) rfl _; simp only [Act.put, List.setIfInBounds_toArray, List.set_cons_zero, List.set_cons_succ])
          | (refine' E.wpMix_value _ rfl rfl _ _; rotate_left; (solve | (intro W; go_simp) | (intro W; go_simp; with_reducible rfl)); simp only [Act.put, List.setIfInBounds_toArray, List.set_cons_zero, List.set_cons_succ])
          | (refine' E.wpMix_read _ rfl rfl _ _; rotate_left; (solve | (rintro W ⟨h1, h2, h3⟩; go_simp) | (rintro W ⟨h1, h2, h3⟩; go_simp; with_reducible rfl)); simp only [Act.put, List.setIfInBounds_toArray, List.set_cons_zero, List.set_cons_succ]))
        refine E.wpMix_call 42 #[.int .i64 q, .int .u32 sg] (by decide) rfl (by go_simp) ?_
        refine (HJN.out _).mono ?_
        rintro e w' ⟨rfl, rfl⟩
        refine ⟨_, rfl, fun _ => ⟨d0, d1, d2⟩, ?_⟩
        simp only [Act.put, List.setIfInBounds_toArray, List.set_cons_zero, List.set_cons_succ]
        repeat (first
          | (refine' E.wpMix_not (by decide) rfl _; simp only [Act.put, List.setIfInBounds_toArray, List.set_cons_zero, List.set_cons_succ])
          | (refine' E.wpMix_value _ rfl rfl _ _; rotate_left; (solve | (intro W; go_simp) | (intro W; go_simp; with_reducible rfl)); simp only [Act.put, List.setIfInBounds_toArray, List.set_cons_zero, List.set_cons_succ])
          | (refine' E.wpMix_read _ rfl rfl _ _; rotate_left; (solve | (rintro W ⟨h1, h2, h3⟩; go_simp) | (rintro W ⟨h1, h2, h3⟩; go_simp; with_reducible rfl)); simp only [Act.put, List.setIfInBounds_toArray, List.set_cons_zero, List.set_cons_succ]))
        refine E.wpMix_round l fn tmps assign body (by decide) rfl (by go_simp) ?_
        refine HRD.out.mono ?_
        rintro e W3 (⟨rfl, hJ3, hk3⟩ | ⟨rfl, hJx3⟩)
        · refine ⟨_, rfl, (fun h => by cases h), ?_⟩
          have J3 := hid hJ3
          have R3 := hid (hk3.owns R2.out)
          clear hJ3 hk3
          simp only [Act.put, List.setIfInBounds_toArray, List.set_cons_zero, List.set_cons_succ]
          repeat (first
            | (refine' E.wpMix_not (by decide) rfl _; simp only [Act.put, List.setIfInBounds_toArray, List.set_cons_zero, List.set_cons_succ])
            | (refine' E.wpMix_value _ rfl rfl _ _; rotate_left; (solve | (intro W; go_simp) | (intro W; go_simp; with_reducible rfl)); simp only [Act.put, List.setIfInBounds_toArray, List.set_cons_zero, List.set_cons_succ])
            | (refine' E.wpMix_read _ rfl rfl _ _; rotate_left; (solve | (rintro W ⟨h1, h2, h3⟩; go_simp) | (rintro W ⟨h1, h2, h3⟩; go_simp; with_reducible rfl)); simp only [Act.put, List.setIfInBounds_toArray, List.set_cons_zero, List.set_cons_succ]))
          refine E.wpMix_end ?_
          gi_wp2
          go_roundw
          case rel => exact ⟨q + 1, by omega, by go_num, by rw [HPF.out]; exact J3, R3⟩
          case measure => simp [intOf]; omega
        · refine ⟨_, rfl, (fun h => by cases h), ?_⟩
          have J3 := hid hJx3
          clear hJx3
          simp only [Act.put, List.setIfInBounds_toArray, List.set_cons_zero, List.set_cons_succ]
          repeat (first
            | (refine' E.wpMix_not (by decide) rfl _; simp only [Act.put, List.setIfInBounds_toArray, List.set_cons_zero, List.set_cons_succ])
            | (refine' E.wpMix_value _ rfl rfl _ _; rotate_left; (solve | (intro W; go_simp) | (intro W; go_simp; with_reducible rfl)); simp only [Act.put, List.setIfInBounds_toArray, List.set_cons_zero, List.set_cons_succ])
            | (refine' E.wpMix_read _ rfl rfl _ _; rotate_left; (solve | (rintro W ⟨h1, h2, h3⟩; go_simp) | (rintro W ⟨h1, h2, h3⟩; go_simp; with_reducible rfl)); simp only [Act.put, List.setIfInBounds_toArray, List.set_cons_zero, List.set_cons_succ]))
          refine E.wpMix_end ?_
          gi_wp2
          refine bodyPost_ret (results_none rfl _ _ _) rfl ?_
          exact ⟨⟨_, rfl⟩, .inr ⟨_, by have := pairF_take A.L (q + 1); rw [HPF.out] at this; exact this, J3.out⟩⟩
    · obtain rfl : q = N := by omega
      have ht : A.L.take q = A.L := List.take_of_length_le (by rw [← HN.out]; exact Nat.le_refl _)
      have HT := hid ht
      clear ht
      gi_wp2
      go_end0
      exact ⟨⟨_, rfl⟩, .inl ⟨_, rfl, by have := HJq.out; rw [HT.out] at this; exact this⟩⟩
end Go.Proofs.Ytmampaglemleoab

namespace Go.Proofs.Ytmampaglemleoab
open Go Go.ChangeShapes Go.WideShapes Go.ChangeAt Go.RowKit Go.Shelf
attribute [local go_sem] Oper.semAt_some

theorem pairF_all : ∀ (L : List Spot) (k : Nat), (pairF k L).map (·.1) = (((L.map e0).zipIdx k).filter (·.1.t)).map fun p => hand p.2 p.1.g
  | [], _ => rfl
  | s :: L, k => by
    have ih := pairF_all L (k + 1)
    rw [List.map_cons, List.zipIdx_cons, List.filter_cons]
    unfold pairF
    have e1 : (e0 s, k).1.t = s.t := rfl
    rw [e1]
    cases s.t with
    | true => simp only [if_true, List.map_cons]; rw [ih]; rfl
    | false => simp only [Bool.false_eq_true, if_false]; exact ih
theorem arenaAll_any (w : World) (pa : Nat) : Calls Try.prog 36 #[.pointer (some ⟨pa, 0, none⟩)] w fun e w' => e = .returned (.func (.func 40) #[] #[.pointer (some ⟨w.heap.size, 0, none⟩)]) ∧ w' = w.alloc (.cells #[.pointer (some ⟨pa, 0, none⟩)] 62) := by
  go_enter Try.func36, Try.ntmps36
  go_wp2
  go_ret
  exact ⟨rfl, rfl⟩
def encPr (x : Int × Int) : Array Value := #[.int .u64 x.1, encE x.2]
theorem arena_stops (n Bn p : Nat) (S : Nat → Prop) (A : Ar) (w : World) (hBn : Boxed w Bn 62 (.pointer (some ⟨p, 0, none⟩))) (hI : InS S w p A) :
    SeqStopsK Fence.wide n Try.prog 40 #[.pointer (some ⟨Bn, 0, none⟩)] encPr KCE (fun ys => ys = pairF 0 A.L) (fun pre => pre <+: pairF 0 A.L) (pairF 0 A.L).length w := fun l J Jx W hW hJ _ hY h0 =>
  iter_any n l Bn p S A J Jx (fun pre x W hj hp => hY pre x W hj (by have := hp.length_le; simp at this; omega)) W (Boxed.cell ((hW.block Bn hBn.lt).trans hBn)) (hI.fr (fp := fun _ => False) (Fr.of_below hW) (fun _ _ e => e)) (fun s W W' h hb => hJ s W W' none h (grown_of_below hb) (fun r e => by cases e)) h0
/-- .. told in order. -/
theorem arena_tells (n Bn p : Nat) (S : Nat → Prop) (A : Ar) (w : World) (hBn : Boxed w Bn 62 (.pointer (some ⟨p, 0, none⟩))) (hI : InS S w p A) :
    TellsX Fence.wide n Try.prog 40 #[.pointer (some ⟨Bn, 0, none⟩)] encPr (fun (_ : Unit) W W' => Below W.heap.size W W') (fun _ => KCE) (fun _ _ => True) (pairF 0 A.L) w := fun l J Jx W hW hJ _ _ _ hY h0 => by
  refine (iter_any n l Bn p S A (J ()) Jx (fun pre x W' hj hp => (hY () pre x W' hj hp).mono ?_) W (Boxed.cell ((hW.block Bn hBn.lt).trans hBn)) (hI.fr (fp := fun _ => False) (Fr.of_below hW) (fun _ _ e => e)) (fun s W W' h hb => hJ () s W W' none h (grown_of_below hb) (fun r e => by cases e)) (h0 () W (Below.refl _ _))).mono ?_
  · rintro e W' (⟨h1, h2, h3, _⟩ | ⟨h1, h2, _⟩)
    · exact .inl ⟨h1, h2, h3⟩
    · exact .inr ⟨h1, h2⟩
  · rintro e W' ⟨h1, ⟨ys, rfl, h2⟩ | ⟨pre, h2, h3⟩⟩
    · exact ⟨h1, .inl ⟨(), h2⟩⟩
    · exact ⟨h1, .inr ⟨pre, h2, h3⟩⟩
theorem roundIn_wide2 {n m : Nat} {P : Program} {l : Nat} {f : FuncId} {tmps : Array Value} {assign body : Code} {w : World} {R : Ending → World → Prop} (h : RoundIn Fence.wide n P l f tmps assign body w R) : RoundIn Fence.wide m P l f tmps assign body w R :=
  ⟨h.1, fun c cs _ => h.2 c cs (room_wide _)⟩
theorem round_inR {n : Nat} {P : Program} {l : Nat} {f : FuncId} {tmps : Array Value} {assign body : Code} {w : World} {R : Ending → World → Prop} (lo : Nat) (h : RoundIn Fence.wide n P l f tmps assign body w R) : RoundIn (Fence.wide.inRound lo) n P l f tmps assign body w R := h
end Go.Proofs.Ytmampaglemleoab
