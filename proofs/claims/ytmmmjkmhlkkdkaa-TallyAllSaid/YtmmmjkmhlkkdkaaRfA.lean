/-
  The plain twin in memory; the contract of its at.
-/
import Derived.Test.YtmmmjkmhlkkdkaaRfM
import Derived.Test.YtmmmjkmhlkkdkaaTlT
namespace Go.Proofs.Ytmmmjkmhlkkdkaa
open Go.ChangeShapes Go.WideShapes Go.ChangeAt Go.RowKit Go.Maps Go.Shelf

theorem nil_nil (W : World) : (Builtin.append_ #[27, 27] 27 #[.slice none 0 0, .slice none 0 0]).run Try.prog W = .ok (.slice none 0 0) W := by kernel_rfl
theorem some_nil (W : World) (a : Addr) (k : Nat) : (Builtin.append_ #[27, 27] 27 #[.slice (some a) 1 (k + 1), .slice none 0 0]).run Try.prog W = .ok (.slice (some a) 1 (k + 1)) W := by kernel_rfl
theorem owns_base {w : World} {B B' : Nat} {e : TypeId} {size : Nat} {v : Value} {n : Nat} {xs : List Value} (h : w.ownsRow B e size v n xs) (hb : B' ≤ B) : w.ownsRow B' e size v n xs := by
  refine ⟨h.1, ?_⟩
  rcases h.2 with h1 | ⟨g, cap, cur, h1, h2, h3⟩
  · exact .inl h1
  · exact .inr ⟨g, cap, cur, h1, Nat.le_trans hb h2, h3⟩
/-- The plain twin in memory. -/
structure RfT (w : World) (p : Nat) (lv : Value) (most : Int) (R : TM) : Prop where
  hp : w.heap[p]? = some (.cells #[.int .u32 most, lv] 29 (0, 0))
  row : w.ownsRow (p + 1) 60 2 lv R.length (R.flatMap encE)
section
variable {w : World} {p : Nat} {lv : Value} {most : Int} {R : TM}
theorem RfT.c0 (h : RfT w p lv most R) : w.cell? ⟨p, 0, none⟩ = some (.int .u32 most) := by rw [cell_of_row w p 0 _ 29 _ h.hp]; rfl
theorem RfT.c1 (h : RfT w p lv most R) : w.cell? ⟨p, 1, none⟩ = some lv := by rw [cell_of_row w p 1 _ 29 _ h.hp]; rfl
theorem RfT.fz (h : RfT w p lv most R) (k : Nat) : w.frozen? ⟨p, k, none⟩ = false := frozen_of_row w p k _ 29 h.hp
theorem RfT.lt (h : RfT w p lv most R) : p < w.heap.size := lt_of_heap h.hp
theorem RfT.fr {w' : World} {fp : Nat → Prop} (h : RfT w p lv most R) (hf : Fr fp w w') (hn : ∀ j, p ≤ j → ¬ fp j) : RfT w' p lv most R :=
  ⟨by rw [hf.block p h.lt (hn p (Nat.le_refl _))]; exact h.hp, hf.owns h.row (fun k hk => hn k (by have := (h.row.lt k hk).1; omega))⟩
theorem RfT.shape (h : RfT w p lv most R) : (R = [] ∧ lv = .slice none 0 0) ∨ ∃ g cap, lv = .slice (some ⟨g, 0, none⟩) R.length cap ∧ R.length ≤ cap ∧ p < g := by
  rcases h.row.2 with ⟨h1, h2⟩ | ⟨g, cap, _, h1, h2, _, h3, _⟩
  · exact .inl ⟨List.eq_nil_of_length_eq_zero h2, h1⟩
  · exact .inr ⟨g, cap, h1, h3, h2⟩
theorem RfT.at {g cap q : Nat} {x : Int × Int} (h : RfT w p (.slice (some ⟨g, 0, none⟩) R.length cap) most R) (hx : R[q]? = some x) : w.cell? ⟨g, q * 2, none⟩ = some (.int .u64 x.1) ∧ w.cell? ⟨g, q * 2 + 1, none⟩ = some (.int .u32 x.2) := by
  have hlt := (List.getElem?_eq_some_iff.1 hx).1
  exact ⟨(h.row.cellAt (q * 2) (by omega)).trans (encE_at R q 0 x hx (by omega)), (h.row.cellAt (q * 2 + 1) (by omega)).trans (encE_at R q 1 x hx (by omega))⟩
end
theorem cap_pos {w : World} {B : Nat} {e : TypeId} {s n g k : Nat} {xs : List Value} (h : w.ownsRow B e s (.slice (some ⟨g, 0, none⟩) (n + 1) k) (n + 1) xs) : ∃ k', k = k' + 1 := by
  rcases h.2 with ⟨h1, _⟩ | ⟨g', cap, cur, h1, _, _, h2, _⟩
  · cases h1
  · cases h1
    exact ⟨k - 1, by omega⟩
theorem hpw_step {w w' : World} {o : Obj} {p : Nat} {x : Obj} {n c : Nat} (h : w.heap[p]? = some x) (hg : (w.alloc o).grownBy w' (Value.slice none n c).ownBlock) : w'.heap[p]? = some x := by
  have hlt := lt_of_heap h
  rw [hg.block p (by simp; omega) (by simp [Value.ownBlock]), Below.heap_alloc w o p hlt]
  exact h
theorem at_op {P : Program} {ops : Array Oper} {Q : Exit → Act → World → Prop} (o : Oper) {rest : List Oper} {a : Act} {w : World} (h : wpList P ops Q (o :: rest) a w) : wpList P ops Q (o :: rest) a w := h
def AtPost (w : World) (p : Nat) (most : Int) (R : TM) (k : Int) (e : Ending) (w' : World) : Prop :=
  e = .returned (.int .i64 ((ltM R k).length : Nat)) ∧ (∃ lv', RfT w' p lv' most (setR R k (getM R k))) ∧ Fr (fun j => p ≤ j) w w'
theorem info60' : ∃ i0, Try.prog.info? 60 = some i0 ∧ i0.zero = some (.agg #[.int .u64 0, .int .u32 0]) ∧ i0.size = 2 ∧ i0.bytes = 16 := info_parts info60

set_option maxHeartbeats 1000000 in
set_option maxRecDepth 100000 in
/-- at: there is nothing yet. -/
theorem at_nil (w : World) (p : Nat) (most k : Int) (h : RfT w p (.slice none 0 0) most []) : Calls Try.prog 31 #[.pointer (some ⟨p, 0, none⟩), .int .u64 k] w (AtPost w p most [] k) := by
  have c1 := h.c1
  have z1 := h.fz 1
  have hp := h.lt
  obtain ⟨i0, hi, hz0, hz1, hz2⟩ := info60'
  have hi' := hid hi
  have hz0' := hid hz0
  have hz1' := hid hz1
  have hz2' := hid hz2
  have H := hid h
  clear hi hz0 hz1 hz2 h
  go_enter Try.func31, Try.ntmps31
  go_wp2
  go_loop [5] (fun i => i = .int .i64 0) (fun _ => 0)
  case atStart => rfl
  case round =>
    obtain rfl := hrel
    have hq1 := nil_nil
    go_wp2_with (at_builtin; (with_reducible refine at_op ⟨some 60, _, _, _, _, _⟩ ?_); refine wpList_append_lies _ (o := ⟨some 60, _, _, _, _, _⟩) rfl (.tmp 56) (.tmp 59) 27 rfl w.heap.size 60 i0 (.agg #[.int .u64 0, .int .u32 0]) 2 16 Try.underlying27 hi'.out hz0'.out hz1'.out hz2'.out rfl (by decide) (.slice none 0 0) 0 [] rfl (World.ownsRow_nil _ _ _ _) ⟨w.heap.size, 0, none⟩ 1 1 [.int .u64 k, .int .u32 0] rfl rfl (World.news_of_block (heap_alloc_new w _)) (by simp [Value.oneCell']) (by decide) (by unfold maxLen; omega) (by omega) (by simp) (w.heap.size + 1) (by simp) ?_; intro g5 k5 w5 hown5 hgrow5 hat5 hlt5; obtain ⟨k6, rfl⟩ := cap_pos hown5; have HO5 := hid hown5; have HG5 := hid hgrow5; have hg5p : g5 ≠ p := (by have := (hown5.lt g5 rfl).1; omega); clear hown5 hgrow5 hat5; have hq2 := some_nil; have hpw5 := hpw_step H.out.hp HG5.out; have z5 : w5.frozen? ⟨p, 1, none⟩ = false := frozen_of_row w5 p 1 _ 29 hpw5; have e5 : w5.cell? ⟨p, 1, none⟩ = some (.slice none 0 0) := (by rw [cell_of_row w5 p 1 _ 29 _ hpw5]; rfl); have HP5 := hid hpw5; clear hpw5)
    go_ret
    have hfin : w5.heap[p]? = some (.cells #[.int .u32 most, .slice none 0 0] 29 (0, 0)) := HP5.out
    refine ⟨rfl, ⟨.slice (some ⟨g5, 0, none⟩) 1 (k6 + 1), ⟨by rw [heap_setCell_same _ _ _ _ _ _ hfin]; rfl, ?_⟩⟩, ?_⟩
    · exact owns_base (ownsRow_setCell_other HO5.out (by simp [Value.ownBlock]; exact hg5p) _) (by omega)
    · exact (((Fr.refl _ w).alloc _).grown HG5.out (fun j hj _ => by simp [Value.ownBlock] at hj)).setCell _ _ (fun _ => Nat.le_refl _)

theorem flat_len (l : TM) : (l.flatMap encE).length = l.length * 2 := by
  induction l with
  | nil => rfl
  | cons a r ih => rw [List.flatMap_cons, List.length_append, ih, List.length_cons]; simp only [encE, List.length_cons, List.length_nil]; omega
theorem flat_one (l : TM) : ∀ u ∈ l.flatMap encE, u.oneCell' = true := fun u hu => by
  obtain ⟨x, _, hx⟩ := List.mem_flatMap.1 hu
  simp [encE] at hx
  rcases hx with rfl | rfl <;> rfl
theorem flat_cut (R : TM) (q : Nat) : R.flatMap encE = (R.take q).flatMap encE ++ (R.drop q).flatMap encE := by
  rw [← List.flatMap_append, List.take_append_drop]
theorem RfT.keep {w w' : World} {p : Nat} {lv : Value} {most : Int} {R : TM} (h : RfT w p lv most R) (hf : Fr (fun j => w.heap.size ≤ j) w w') : RfT w' p lv most R :=
  ⟨by rw [hf.block p h.lt (by have := h.lt; omega)]; exact h.hp, hf.owns h.row (fun k hk => by have := (h.row.lt k hk).2; omega)⟩
/-- The first cells of a row, and those from a place on. -/
theorem RfT.head {w : World} {p g n cap : Nat} {most : Int} {R : TM} (h : RfT w p (.slice (some ⟨g, 0, none⟩) n cap) most R) (hn : n = R.length) (q : Nat) : ∀ j u, ((R.take q).flatMap encE)[j]? = some u → w.cell? ((⟨g, 0, none⟩ : Addr).add j) = some u := fun j u hu => by
  subst hn
  refine h.row.cells (g := g) rfl j u ?_
  rw [flat_cut R q, List.getElem?_append_left (List.getElem?_eq_some_iff.1 hu).1]
  exact hu
theorem RfT.tail {w : World} {p g n cap : Nat} {most : Int} {R : TM} (h : RfT w p (.slice (some ⟨g, 0, none⟩) n cap) most R) (hn : n = R.length) (q : Nat) (hq : q ≤ n) : ∀ j u, ((R.drop q).flatMap encE)[j]? = some u → w.cell? ((⟨g, q * 2, none⟩ : Addr).add j) = some u := fun j u hu => by
  subst hn
  have hl := flat_len (R.take q)
  rw [List.length_take, Nat.min_eq_left hq] at hl
  have hc := h.row.cells (g := g) rfl (q * 2 + j) u (by rw [flat_cut R q, List.getElem?_append_right (by omega), hl, Nat.add_sub_cancel_left]; exact hu)
  have e1 : (⟨g, 0, none⟩ : Addr).add (q * 2 + j) = (⟨g, q * 2, none⟩ : Addr).add j := by
    unfold Addr.add
    by_cases hj : j = 0
    · subst hj
      by_cases hq0 : q * 2 = 0
      · simp [hq0]
      · simp [hq0]
    · simp [hj]
  rw [e1] at hc
  exact hc
/-- What stands from a place on, when all ahead of it are less. -/
theorem place_at {R : TM} {k : Int} {q : Nat} (hr : Rising R) (hA : ∀ p ∈ R.take q, p.1 < k) (hB : ∀ x, R[q]? = some x → k ≤ x.1) (hq : q ≤ R.length) :
    (ltM R k).length = q ∧ ((∃ c, R[q]? = some (k, c) ∧ c = getM R k ∧ setR R k c = R) ∨ (getM R k = 0 ∧ setR R k 0 = R.take q ++ (k, 0) :: R.drop q ∧ ∀ x, R[q]? = some x → ¬ x.1 = k)) := by
  have e : R.take q ++ R.drop q = R := List.take_append_drop q R
  have h1 := place (A := R.take q) (B := R.drop q) (k := k) (by rw [e]; exact hr) hA (fun p hp => by
    rw [List.head?_drop] at hp
    exact hB p hp)
  rw [e] at h1
  obtain ⟨h2, h3⟩ := h1
  have hl : (ltM R k).length = q := by rw [h2]; simp; omega
  refine ⟨hl, ?_⟩
  rcases h3 with ⟨c, B', h4, h5, h6⟩ | ⟨h4, h5, h6⟩
  · left
    have hx : R[q]? = some (k, c) := by
      have : (R.drop q)[0]? = some (k, c) := by rw [h4]; rfl
      rw [List.getElem?_drop, Nat.add_zero] at this; exact this
    refine ⟨c, hx, h5, ?_⟩
    unfold setR
    rw [h2, h6, ← h4, e]
  · right
    refine ⟨h6, by unfold setR; rw [h2, h5], fun x hx he => ?_⟩
    have hm : x ∈ R.drop q := by
      have : (R.drop q)[0]? = some x := by rw [List.getElem?_drop, Nat.add_zero]; exact hx
      exact List.mem_of_getElem? this
    have := h4 x hm
    omega

set_option maxHeartbeats 2000000 in
set_option maxRecDepth 100000 in
/-- at: there is something. -/
theorem at_some (w : World) (p g n cap : Nat) (most k : Int) (R : TM) (h : RfT w p (.slice (some ⟨g, 0, none⟩) R.length cap) most R) (hn : n = R.length) (hcap : R.length ≤ cap) (hr : Rising R) (hl : R.length ≤ 100000) :
    Calls Try.prog 31 #[.pointer (some ⟨p, 0, none⟩), .int .u64 k] w (AtPost w p most R k) := by
  have c1 := h.c1
  have z1 := h.fz 1
  have hp := h.lt
  obtain ⟨i0, hi, hz0, hz1, hz2⟩ := info60'
  have hi' := hid hi
  have hz0' := hid hz0
  have hz1' := hid hz1
  have hz2' := hid hz2
  have hpg : p < g := by have := (h.row.lt g rfl).1; omega
  have hgw : g < w.heap.size := (h.row.lt g rfl).2
  have hcm : cap ≤ 9223372036854775807 := by
    rcases h.row.2 with ⟨h1, _⟩ | ⟨g', cap', cur, h1, _, _, _, h2, _⟩
    · cases h1
    · cases h1; exact h2
  have H := hid h
  have HR := hid hr
  rw [← hn] at c1 hcap hl
  have HN := hid hn
  clear hi hz0 hz1 hz2 h hr hn
  go_enter Try.func31, Try.ntmps31
  go_wp2
  go_loop [5] (fun i => ∃ q : Nat, q ≤ n ∧ i = .int .i64 q ∧ RowKit.Hid (∀ x ∈ R.take q, x.1 < k)) (fun i => n - (intOf i).toNat)
  case atStart => exact ⟨0, by omega, rfl, hid (by simp)⟩
  case round =>
    obtain ⟨q, hq, rfl, hall⟩ := hrel
    by_cases hql : q < n
    · have hqR : q < R.length := by rw [← HN.out]; exact hql
      have hx : R[q]? = some R[q] := List.getElem?_eq_getElem hqR
      have htk : R.take (q + 1) = R.take q ++ [R[q]] := by rw [List.take_succ_eq_append_getElem hqR]
      generalize R[q] = x at hx htk
      obtain ⟨a0, a1⟩ := H.out.at hx
      have HX := hid hx
      have HT := hid htk
      clear hx htk hqR
      by_cases hlt : x.1 < k
      · have hd : decide (x.1 < k) = true := by simpa using hlt
        go_wp2
        go_round
        case rel => exact ⟨q + 1, by omega, by go_num, hid (fun y hy => by rw [HT.out] at hy; rcases List.mem_append.1 hy with hy | hy; exact hall.out y hy; simp at hy; subst hy; exact hlt)⟩
        case measure => simp [intOf]; omega
      · have hd : decide (x.1 < k) = false := by simpa using hlt
        obtain ⟨p1, p2⟩ := place_at HR.out hall.out (fun y hy => by rw [HX.out] at hy; cases hy; omega) (by rw [← HN.out]; exact hq)
        have P1 := hid p1
        rcases p2 with ⟨c, p3, p4, p5⟩ | ⟨p3, p4, p5⟩
        · -- it is there
          have hxk : x = (k, c) := by rw [HX.out] at p3; exact Option.some.inj p3
          subst hxk
          have P4 := hid p4
          have P5 := hid p5
          clear p1 p3 p4 p5 hlt
          go_wp2
          go_ret
          exact ⟨by rw [P1.out]; rfl, ⟨_, by rw [← P4.out, P5.out]; exact H.out⟩, Fr.refl _ _⟩
        · have hne : (x.1 == k) = false := by have := p5 x HX.out; simpa using this
          have P3 := hid p3
          have P4 := hid p4
          clear p1 p3 p4 p5 hlt
          have HL1 := hid (show ((R.take q).flatMap encE).length = q * 2 by rw [flat_len]; simp; have := HN.out; omega)
          have HL2 := hid (show ((R.drop q).flatMap encE).length = (n - q) * 2 by rw [flat_len]; simp; have := HN.out; omega)
          have HNW := hid (H.out.head rfl q)
          have hH := H.out
          rw [← HN.out] at hH
          clear H
          have H := hid hH
          clear hH a1
          go_wp2_with (first
            | (at_builtin; (with_reducible refine at_op ⟨some 55, _, _, _, _, _⟩ ?_); refine wpList_append_own _ (o := ⟨some 55, _, _, _, _, _⟩) rfl (.tmp 48) (.tmp 54) 27 rfl w.heap.size 60 i0 (.agg #[.int .u64 0, .int .u32 0]) 2 16 Try.underlying27 hi'.out hz0'.out hz1'.out hz2'.out rfl (by decide) (.slice none 0 0) 0 [] rfl (World.ownsRow_nil _ _ _ _) ⟨g, 0, none⟩ q cap ((R.take q).flatMap encE) rfl HL1.out HNW.out (flat_one _) (by unfold maxLen; omega) (by omega) (Nat.le_refl _) ?_; intro v5 w5 hown5 hgrow5 hnil5; rw [Nat.zero_add, List.nil_append] at hown5; have hz5 := hgrow5.size; have HF5 := hid (Fr.grown (fp := fun j => w.heap.size ≤ j) (Fr.refl _ w) hgrow5 (fun j hj _ => by simp [Value.ownBlock] at hj)); have HO5 := hid hown5; clear hown5 hgrow5 hnil5)
            | (at_builtin; (with_reducible refine at_op ⟨some 60, _, _, _, _, _⟩ ?_); refine wpList_append_lies _ (o := ⟨some 60, _, _, _, _, _⟩) rfl (.tmp 56) (.tmp 59) 27 rfl w.heap.size 60 i0 (.agg #[.int .u64 0, .int .u32 0]) 2 16 Try.underlying27 hi'.out hz0'.out hz1'.out hz2'.out rfl (by decide) v5 q _ rfl (HO5.out.alloc _) ⟨w5.heap.size, 0, none⟩ 1 1 [.int .u64 k, .int .u32 0] rfl rfl (World.news_of_block (heap_alloc_new w5 _)) (by simp [Value.oneCell']) (by decide) (by unfold maxLen; omega) (by omega) (by simp; omega) (w5.heap.size + 1) (by simp) ?_; intro g6 k6 w6 hown6 hgrow6 hat6 hlt6; have hz6 := hgrow6.size; have hf6 := (HF5.out.alloc _).grown hgrow6 (fun j hj _ => (HO5.out.lt j hj).1); have h6 := H.out.keep hf6; have c6 := h6.c1; have z6 := h6.fz 1; have HF6 := hid hf6; have H6 := hid h6; have HO6 := hid hown6; have HNW6 := hid (h6.tail HN.out q (by omega)); clear hown6 hgrow6 hat6 hlt6 hf6 h6 c1 z1)
            | (at_builtin; (with_reducible refine at_op ⟨some 69, _, _, _, _, _⟩ ?_); refine wpList_append_own _ (o := ⟨some 69, _, _, _, _, _⟩) rfl (.tmp 62) (.tmp 68) 27 rfl w.heap.size 60 i0 (.agg #[.int .u64 0, .int .u32 0]) 2 16 Try.underlying27 hi'.out hz0'.out hz1'.out hz2'.out rfl (by decide) (.slice (some ⟨g6, 0, none⟩) (q + 1) k6) (q + 1) _ rfl HO6.out ⟨g, q * 2, none⟩ (n - q) (cap - q) ((R.drop q).flatMap encE) rfl HL2.out HNW6.out (flat_one _) (by unfold maxLen; omega) (by omega) (by simp at hz6; omega) ?_; intro v7 w7 hown7 hgrow7 hnil7; obtain ⟨g7, k7, hv7, _⟩ := hown7.form (by omega); subst hv7; have HO7 := hid hown7; have hf7 := HF6.out.grown hgrow7 (fun j hj _ => (HO6.out.lt j hj).1); have h7 := H.out.keep hf7; have c7 := h7.c1; have z7 := h7.fz 1; have HF7 := hid hf7; have H7 := hid h7; clear hown7 hgrow7 hnil7 hf7 h7 c6 z6))
          go_ret
          refine ⟨by rw [P1.out]; rfl, ⟨.slice (some ⟨g7, 0, none⟩) (q + 1 + (n - q)) k7, ?_, ?_⟩, (HF7.out.mono (fun j hj _ => (by omega : p ≤ j))).setCell _ _ (fun _ => Nat.le_refl _)⟩
          · rw [heap_setCell_same _ _ _ _ _ _ H7.out.hp]; rfl
          · have e1 := owns_base (ownsRow_setCell_other HO7.out (a := ⟨p, 1, none⟩) (fun e => by have := (HO7.out.lt p e).1; omega) (.slice (some ⟨g7, 0, none⟩) (q + 1 + (n - q)) k7)) (B' := p + 1) (by omega)
            have e2 : setR R k (getM R k) = R.take q ++ (k, 0) :: R.drop q := by rw [P3.out, P4.out]
            have e3 : (setR R k (getM R k)).length = q + 1 + (n - q) := by rw [e2]; simp; have := HN.out; omega
            have e4 : (setR R k (getM R k)).flatMap encE = (R.take q).flatMap encE ++ [.int .u64 k, .int .u32 0] ++ (R.drop q).flatMap encE := by rw [e2]; simp [encE]
            rw [e3, e4]
            exact e1
    · obtain rfl : q = n := by omega
      obtain ⟨p1, p2⟩ := place_at HR.out hall.out (fun y hy => by rw [List.getElem?_eq_none (by rw [← HN.out]; exact Nat.le_refl _)] at hy; cases hy) (by rw [← HN.out]; exact hq)
      have P1 := hid p1
      rcases p2 with ⟨c, p3, _, _⟩ | ⟨p3, p4, p5⟩
      · rw [List.getElem?_eq_none (by rw [← HN.out]; exact Nat.le_refl _)] at p3; cases p3
      · have P3 := hid p3
        have P4 := hid p4
        clear p1 p3 p4 p5
        have HL1 := hid (show ((R.take q).flatMap encE).length = q * 2 by rw [flat_len]; simp; have := HN.out; omega)
        have NIL := hid (show (R.drop q).flatMap encE = [] by rw [List.drop_of_length_le (by rw [← HN.out]; exact Nat.le_refl _)]; rfl)
        have HNW := hid (H.out.head rfl q)
        have hH := H.out
        rw [← HN.out] at hH
        clear H
        have H := hid hH
        clear hH
        by_cases hqc : q = cap
        · subst hqc
          go_wp2_with (first
            | (at_builtin; (with_reducible refine at_op ⟨some 55, _, _, _, _, _⟩ ?_); refine wpList_append_own _ (o := ⟨some 55, _, _, _, _, _⟩) rfl (.tmp 48) (.tmp 54) 27 rfl w.heap.size 60 i0 (.agg #[.int .u64 0, .int .u32 0]) 2 16 Try.underlying27 hi'.out hz0'.out hz1'.out hz2'.out rfl (by decide) (.slice none 0 0) 0 [] rfl (World.ownsRow_nil _ _ _ _) ⟨g, 0, none⟩ q q ((R.take q).flatMap encE) rfl HL1.out HNW.out (flat_one _) (by unfold maxLen; omega) (by omega) (Nat.le_refl _) ?_; intro v5 w5 hown5 hgrow5 hnil5; rw [Nat.zero_add, List.nil_append] at hown5; have hz5 := hgrow5.size; have HF5 := hid (Fr.grown (fp := fun j => w.heap.size ≤ j) (Fr.refl _ w) hgrow5 (fun j hj _ => by simp [Value.ownBlock] at hj)); have HO5 := hid hown5; clear hown5 hgrow5 hnil5)
            | (at_builtin; (with_reducible refine at_op ⟨some 60, _, _, _, _, _⟩ ?_); refine wpList_append_lies _ (o := ⟨some 60, _, _, _, _, _⟩) rfl (.tmp 56) (.tmp 59) 27 rfl w.heap.size 60 i0 (.agg #[.int .u64 0, .int .u32 0]) 2 16 Try.underlying27 hi'.out hz0'.out hz1'.out hz2'.out rfl (by decide) v5 q _ rfl (HO5.out.alloc _) ⟨w5.heap.size, 0, none⟩ 1 1 [.int .u64 k, .int .u32 0] rfl rfl (World.news_of_block (heap_alloc_new w5 _)) (by simp [Value.oneCell']) (by decide) (by unfold maxLen; omega) (by omega) (by simp; omega) (w5.heap.size + 1) (by simp) ?_; intro g6 k6 w6 hown6 hgrow6 hat6 hlt6; have hz6 := hgrow6.size; have hf6 := (HF5.out.alloc _).grown hgrow6 (fun j hj _ => (HO5.out.lt j hj).1); have h6 := H.out.keep hf6; have c6 := h6.c1; have z6 := h6.fz 1; have HF6 := hid hf6; have H6 := hid h6; have HO6 := hid hown6; have HNW6 := hid (h6.tail HN.out q (by omega)); clear hown6 hgrow6 hat6 hlt6 hf6 h6 c1 z1)
            | (at_builtin; (with_reducible refine at_op ⟨some 69, _, _, _, _, _⟩ ?_); refine wpList_append_own _ (o := ⟨some 69, _, _, _, _, _⟩) rfl (.tmp 62) (.tmp 68) 27 rfl w.heap.size 60 i0 (.agg #[.int .u64 0, .int .u32 0]) 2 16 Try.underlying27 hi'.out hz0'.out hz1'.out hz2'.out rfl (by decide) (.slice (some ⟨g6, 0, none⟩) (q + 1) k6) (q + 1) _ rfl HO6.out _ 0 _ [] rfl rfl (fun j u hu => by cases hu) (fun u hu => by cases hu) (by unfold maxLen; omega) (by omega) (by simp at hz6; omega) ?_; intro v7 w7 hown7 hgrow7 hnil7; obtain ⟨g7, k7, hv7, _⟩ := hown7.form (by omega); subst hv7; rw [Nat.add_zero, List.append_nil] at hown7; have HO7 := hid hown7; have hf7 := HF6.out.grown hgrow7 (fun j hj _ => (HO6.out.lt j hj).1); have h7 := H.out.keep hf7; have c7 := h7.c1; have z7 := h7.fz 1; have HF7 := hid hf7; have H7 := hid h7; clear hown7 hgrow7 hnil7 hf7 h7 c6 z6))
          go_ret
          refine ⟨by rw [P1.out]; rfl, ⟨.slice (some ⟨g7, 0, none⟩) (q + 1) k7, ?_, ?_⟩, (HF7.out.mono (fun j hj _ => (by omega : p ≤ j))).setCell _ _ (fun _ => Nat.le_refl _)⟩
          · rw [heap_setCell_same _ _ _ _ _ _ H7.out.hp]; rfl
          · have e1 := owns_base (ownsRow_setCell_other HO7.out (a := ⟨p, 1, none⟩) (fun e => by have := (HO7.out.lt p e).1; omega) (.slice (some ⟨g7, 0, none⟩) (q + 1) k7)) (B' := p + 1) (by omega)
            have e2 : setR R k (getM R k) = R.take q ++ (k, 0) :: R.drop q := by rw [P3.out, P4.out]
            have e3 : (setR R k (getM R k)).length = q + 1 := by rw [e2]; simp; have := HN.out; omega
            have e4 : (setR R k (getM R k)).flatMap encE = (R.take q).flatMap encE ++ [.int .u64 k, .int .u32 0] := by
              rw [e2, List.flatMap_append, List.flatMap_cons, NIL.out]; simp [encE]
            rw [e3, e4]
            exact e1
        · go_wp2_with (first
            | (at_builtin; (with_reducible refine at_op ⟨some 55, _, _, _, _, _⟩ ?_); refine wpList_append_own _ (o := ⟨some 55, _, _, _, _, _⟩) rfl (.tmp 48) (.tmp 54) 27 rfl w.heap.size 60 i0 (.agg #[.int .u64 0, .int .u32 0]) 2 16 Try.underlying27 hi'.out hz0'.out hz1'.out hz2'.out rfl (by decide) (.slice none 0 0) 0 [] rfl (World.ownsRow_nil _ _ _ _) ⟨g, 0, none⟩ q cap ((R.take q).flatMap encE) rfl HL1.out HNW.out (flat_one _) (by unfold maxLen; omega) (by omega) (Nat.le_refl _) ?_; intro v5 w5 hown5 hgrow5 hnil5; rw [Nat.zero_add, List.nil_append] at hown5; have hz5 := hgrow5.size; have HF5 := hid (Fr.grown (fp := fun j => w.heap.size ≤ j) (Fr.refl _ w) hgrow5 (fun j hj _ => by simp [Value.ownBlock] at hj)); have HO5 := hid hown5; clear hown5 hgrow5 hnil5)
            | (at_builtin; (with_reducible refine at_op ⟨some 60, _, _, _, _, _⟩ ?_); refine wpList_append_lies _ (o := ⟨some 60, _, _, _, _, _⟩) rfl (.tmp 56) (.tmp 59) 27 rfl w.heap.size 60 i0 (.agg #[.int .u64 0, .int .u32 0]) 2 16 Try.underlying27 hi'.out hz0'.out hz1'.out hz2'.out rfl (by decide) v5 q _ rfl (HO5.out.alloc _) ⟨w5.heap.size, 0, none⟩ 1 1 [.int .u64 k, .int .u32 0] rfl rfl (World.news_of_block (heap_alloc_new w5 _)) (by simp [Value.oneCell']) (by decide) (by unfold maxLen; omega) (by omega) (by simp; omega) (w5.heap.size + 1) (by simp) ?_; intro g6 k6 w6 hown6 hgrow6 hat6 hlt6; have hz6 := hgrow6.size; have hf6 := (HF5.out.alloc _).grown hgrow6 (fun j hj _ => (HO5.out.lt j hj).1); have h6 := H.out.keep hf6; have c6 := h6.c1; have z6 := h6.fz 1; have HF6 := hid hf6; have H6 := hid h6; have HO6 := hid hown6; have HNW6 := hid (h6.tail HN.out q (by omega)); clear hown6 hgrow6 hat6 hlt6 hf6 h6 c1 z1)
            | (at_builtin; (with_reducible refine at_op ⟨some 69, _, _, _, _, _⟩ ?_); refine wpList_append_own _ (o := ⟨some 69, _, _, _, _, _⟩) rfl (.tmp 62) (.tmp 68) 27 rfl w.heap.size 60 i0 (.agg #[.int .u64 0, .int .u32 0]) 2 16 Try.underlying27 hi'.out hz0'.out hz1'.out hz2'.out rfl (by decide) (.slice (some ⟨g6, 0, none⟩) (q + 1) k6) (q + 1) _ rfl HO6.out _ 0 _ [] rfl rfl (fun j u hu => by cases hu) (fun u hu => by cases hu) (by unfold maxLen; omega) (by omega) (by simp at hz6; omega) ?_; intro v7 w7 hown7 hgrow7 hnil7; obtain ⟨g7, k7, hv7, _⟩ := hown7.form (by omega); subst hv7; rw [Nat.add_zero, List.append_nil] at hown7; have HO7 := hid hown7; have hf7 := HF6.out.grown hgrow7 (fun j hj _ => (HO6.out.lt j hj).1); have h7 := H.out.keep hf7; have c7 := h7.c1; have z7 := h7.fz 1; have HF7 := hid hf7; have H7 := hid h7; clear hown7 hgrow7 hnil7 hf7 h7 c6 z6))
          go_ret
          refine ⟨by rw [P1.out]; rfl, ⟨.slice (some ⟨g7, 0, none⟩) (q + 1) k7, ?_, ?_⟩, (HF7.out.mono (fun j hj _ => (by omega : p ≤ j))).setCell _ _ (fun _ => Nat.le_refl _)⟩
          · rw [heap_setCell_same _ _ _ _ _ _ H7.out.hp]; rfl
          · have e1 := owns_base (ownsRow_setCell_other HO7.out (a := ⟨p, 1, none⟩) (fun e => by have := (HO7.out.lt p e).1; omega) (.slice (some ⟨g7, 0, none⟩) (q + 1) k7)) (B' := p + 1) (by omega)
            have e2 : setR R k (getM R k) = R.take q ++ (k, 0) :: R.drop q := by rw [P3.out, P4.out]
            have e3 : (setR R k (getM R k)).length = q + 1 := by rw [e2]; simp; have := HN.out; omega
            have e4 : (setR R k (getM R k)).flatMap encE = (R.take q).flatMap encE ++ [.int .u64 k, .int .u32 0] := by
              rw [e2, List.flatMap_append, List.flatMap_cons, NIL.out]; simp [encE]
            rw [e3, e4]
            exact e1
end Go.Proofs.Ytmmmjkmhlkkdkaa
