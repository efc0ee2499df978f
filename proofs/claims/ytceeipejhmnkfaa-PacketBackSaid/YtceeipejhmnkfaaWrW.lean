/-
  A writer in memory; the contracts of NewWriter, hasRoom, lay, Num.
-/
import Derived.Test.YtceeipejhmnkfaaWrSz
import Derived.Test.YtceeipejhmnkfaaMix
namespace Go.Proofs.Ytceeipejhmnkfaa
open Go Go.ChangeShapes Go.WideShapes Go.ChangeAt Go.RowKit

set_option maxRecDepth 100000 in
theorem room_eq {n : Int} {k : Nat} (h0 : 0 ≤ n) : (n / 256 ^ k == 0) = decide (n < 256 ^ k) := by
  have hp : (0 : Int) < 256 ^ k := Int.pow_pos (by omega)
  by_cases h : n < 256 ^ k
  · rw [Int.ediv_eq_zero_of_lt h0 h]; simp [h]
  · have : 1 ≤ n / 256 ^ k := by
      rw [Int.le_ediv_iff_mul_le hp]; omega
    have h2 : (n / 256 ^ k == 0) = false := by simp; omega
    rw [h2]; simp; omega
set_option maxRecDepth 100000 in
theorem hasRoom_any (n : Int) (k : Nat) (w : World) (hk : Siz k) (h0 : 0 ≤ n) : Calls Try.prog 57 #[.int .u64 n, .int .i64 k] w fun e w' => e = .returned (.bool (decide (n < 256 ^ k))) ∧ w = w' := by
  have E := hid (room_eq (k := k) h0)
  rcases hk with rfl | rfl | rfl | rfl
  · go_enter Try.func57, Try.ntmps57
    go_wp2
    go_ret
    exact ⟨ret_bool (by rw [← E.out]; rfl), rfl⟩
  · go_enter Try.func57, Try.ntmps57
    go_wp2
    go_ret
    exact ⟨ret_bool (by rw [← E.out]; rfl), rfl⟩
  · go_enter Try.func57, Try.ntmps57
    go_wp2
    go_ret
    exact ⟨ret_bool (by rw [← E.out]; rfl), rfl⟩
  · go_enter Try.func57, Try.ntmps57
    go_wp2
    go_ret
    exact ⟨ret_bool (by rw [← E.out]; rfl), rfl⟩
set_option maxRecDepth 100000 in
/-- NewWriter: a writer without bytes. -/
theorem NewWriter_any (w : World) : Calls Try.prog 21 #[] w fun e w' => e = .returned (.pointer (some ⟨w.heap.size, 0, none⟩)) ∧ w' = w.alloc (.cells #[.slice none 0 0] 72) := by
  go_enter Try.func21, Try.ntmps21
  go_wp2
  go_ret
  exact ⟨rfl, rfl⟩

/-- A writer in memory. -/
structure WrW (w : World) (p : Nat) (v : Value) (xs : List Int) : Prop where
  hp : w.heap[p]? = some (.cells #[v] 72 (0, 0))
  row : w.ownsRow 0 5 1 v xs.length (u8l xs)
  ne : v.ownBlock ≠ some p
section
variable {w w' : World} {p : Nat} {v : Value} {xs : List Int}
set_option maxRecDepth 100000 in
theorem WrW.c0 (h : WrW w p v xs) : w.cell? ⟨p, 0, none⟩ = some v := by rw [cell_of_row w p 0 _ 72 _ h.hp]; rfl
set_option maxRecDepth 100000 in
theorem WrW.fz (h : WrW w p v xs) (k : Nat) : w.frozen? ⟨p, k, none⟩ = false := frozen_of_row w p k _ 72 h.hp
set_option maxRecDepth 100000 in
theorem WrW.lt (h : WrW w p v xs) : p < w.heap.size := (Array.getElem?_eq_some_iff.1 h.hp).1
set_option maxRecDepth 100000 in
theorem WrW.fr {fp : Nat → Prop} (h : WrW w p v xs) (hf : Fr fp w w') (hp : ¬ fp p) (hv : ∀ k, v.ownBlock = some k → ¬ fp k) : WrW w' p v xs :=
  ⟨by rw [hf.block p h.lt hp]; exact h.hp, hf.owns h.row hv, h.ne⟩
end
/-- A writer behind a call: what it holds, what has turned. -/
structure WrTo (w : World) (p : Nat) (v : Value) (w' : World) (v' : Value) (xs : List Int) : Prop where
  wr : WrW w' p v' xs
  fr : Fr (fun j => j = p ∨ v.ownBlock = some j) w w'
  own : ∀ j, v'.ownBlock = some j → v.ownBlock = some j ∨ w.heap.size ≤ j
set_option maxRecDepth 100000 in
theorem WrTo.refl {w : World} {p : Nat} {v : Value} {xs : List Int} (h : WrW w p v xs) : WrTo w p v w v xs := ⟨h, Fr.refl _ _, fun _ h => .inl h⟩
set_option maxRecDepth 100000 in
theorem WrTo.trans {w w1 w2 : World} {p : Nat} {v v1 v2 : Value} {xs ys : List Int} (h : WrTo w p v w1 v1 xs) (k : WrTo w1 p v1 w2 v2 ys) : WrTo w p v w2 v2 ys :=
  ⟨k.wr, h.fr.trans k.fr (fun j hj hl => by
    rcases hj with rfl | hj
    · exact .inl rfl
    · rcases h.own j hj with h1 | h1
      · exact .inr h1
      · omega), fun j hj => by
    rcases k.own j hj with h1 | h1
    · exact h.own j h1
    · exact .inr (Nat.le_trans h.fr.size h1)⟩
set_option maxRecDepth 100000 in
theorem WrW.p5 {wr wa w5 : World} {p : Nat} {v : Value} {ys : List Int} (h : WrW wr p v ys) (ha : Fr (fun _ => False) wr wa) (hg : wa.grownBy w5 v.ownBlock) : w5.cell? ⟨p, 0, none⟩ = some v ∧ w5.frozen? ⟨p, 0, none⟩ = false := by
  have hb : w5.heap[p]? = some (.cells #[v] 72 (0, 0)) := by
    rw [hg.block p (Nat.lt_of_lt_of_le h.lt ha.size) (fun e => h.ne e.symm), ha.block p h.lt (fun h => h)]
    exact h.hp
  exact ⟨by rw [cell_of_row w5 p 0 _ 72 _ hb]; rfl, frozen_of_row w5 p 0 _ 72 hb⟩
set_option maxRecDepth 100000 in
/-- More bytes behind those that were. -/
theorem WrW.push {wr wa w5 : World} {p m : Nat} {v v2 : Value} {ys zs : List Int} (h : WrW wr p v ys) (ha : Fr (fun _ => False) wr wa) (hown : w5.ownsRow 0 5 1 v2 m (u8l ys ++ u8l zs)) (hg : wa.grownBy w5 v.ownBlock)
    (hat : ∀ j, v2.ownBlock = some j → v.ownBlock = some j ∨ wr.heap.size ≤ j) : WrTo wr p v (w5.setCell ⟨p, 0, none⟩ v2) v2 (ys ++ zs) := by
  have hlt := h.lt
  have hf : Fr (fun j => j = p ∨ v.ownBlock = some j) wr w5 := (ha.mono (fun _ h => h.elim)).grown hg (fun k hk _ => .inr hk)
  have hb : w5.heap[p]? = some (.cells #[v] 72 (0, 0)) := by
    rw [hg.block p (Nat.lt_of_lt_of_le hlt ha.size) (fun e => h.ne e.symm), ha.block p hlt (fun h => h)]
    exact h.hp
  have hne : v2.ownBlock ≠ some p := fun e => by
    rcases hat p e with h1 | h1
    · exact h.ne h1
    · omega
  have hm : m = (ys ++ zs).length := by
    have := hown.1
    simp only [List.length_append, u8l_len] at this
    simp; omega
  refine ⟨⟨?_, ?_, hne⟩, hf.setCell _ _ (fun _ => .inl rfl), hat⟩
  · rw [heap_setCell_same w5 p 0 _ 72 _ hb]; rfl
  · rw [u8l_app, ← hm]
    exact hown.kept (grownBy_setCell' w5 p v2) (.inr hne)
def LayPost (w : World) (p : Nat) (v : Value) (xs : List Int) (r : Ending) (e : Ending) (w' : World) : Prop := e = r ∧ ∃ v', WrTo w p v w' v' xs
set_option maxRecDepth 100000 in
theorem byt_take {n : Int} {k q : Nat} (h : q ≤ k) : (byt n k).take q = byt n q := by
  induction k generalizing q with
  | zero => obtain rfl : q = 0 := by omega
            rfl
  | succ k ih =>
    by_cases hq : q = k + 1
    · subst hq; rw [List.take_of_length_le (by rw [byt_len]; omega)]
    · rw [byt_succ, List.take_append_of_le_length (by rw [byt_len]; omega), ih (by omega)]
set_option maxRecDepth 100000 in
set_option maxHeartbeats 1000000 in
theorem lay_any (w : World) (p : Nat) (v : Value) (xs : List Int) (n : Int) (k : Nat) (h : WrW w p v xs) (hk : Siz k) (hl : xs.length ≤ 100000000000000) :
    Calls Try.prog 58 #[.pointer (some ⟨p, 0, none⟩), .int .u64 n, .int .i64 k] w (LayPost w p v (lay xs n k) (.returned (.tuple #[]))) := by
  obtain ⟨i0, hi, hz0, hz1, hz2⟩ := info_parts info5
  have hi' := hid hi
  have hz0' := hid hz0
  have hz1' := hid hz1
  have hz2' := hid hz2
  have hG := hid (gap_any xs.length k w hk (by omega))
  have hgl := gap_lt (n := xs.length) hk
  have hk8 : k ≤ 8 := by rcases hk with rfl | rfl | rfl | rfl <;> omega
  have c0 := h.c0
  obtain ⟨oa, oc, hov⟩ := own_form h.row
  have HOV := hid hov
  have H := hid h
  have HL := hid hl
  obtain ⟨L, hL⟩ : ∃ L, L = xs.length := ⟨_, rfl⟩
  obtain ⟨g, hg⟩ : ∃ g, g = gap xs.length k := ⟨_, rfl⟩
  have HG := hid hg
  have HLL := hid hL
  rw [← hg] at hgl
  rw [← hg, ← hL] at hG
  rw [hov, ← hL] at c0
  clear hi hz0 hz1 hz2 hk h hov hl hg hL
  go_enter Try.func58, Try.ntmps58
  go_wp2_with fail
  refine hG.out.mono ?_
  rintro e w1 ⟨rfl, rfl⟩
  clear hG c0
  go_wp2
  go_loopw [14] (fun i wr => ∃ q : Nat, q ≤ g ∧ i = .int .i64 q ∧ RowKit.Hid (∃ v', WrTo w p v wr v' (xs ++ List.replicate q 0))) (fun i _ => g - (intOf i).toNat)
  case atStart => exact ⟨0, by omega, rfl, hid ⟨v, by simpa using WrTo.refl H.out⟩⟩
  case round =>
    obtain ⟨q, hq, rfl, HR⟩ := hrel
    obtain ⟨v', ht⟩ := HR.out
    have c0 := ht.wr.c0
    obtain ⟨oa', oc', hov⟩ := own_form ht.wr.row
    have hlen : (xs ++ List.replicate q (0 : Int)).length = L + q := by rw [HLL.out]; simp
    rw [hlen] at hov
    have hrow := ht.wr.row
    rw [hlen] at hrow
    have hlt := ht.wr.lt
    have z0 := ht.wr.fz 0
    have hL8 : L ≤ 100000000000000 := by rw [HLL.out]; exact HL.out
    have HT := hid ht
    have HROW := hid hrow
    clear HR ht hlen hrow
    subst hov
    by_cases hqg : q < g
    · have hb1 : ∀ o : Obj, (wr.alloc o).cell? ⟨p, 0, none⟩ = some (.slice oa' (L + q) oc') := fun o => by rw [World.cell?_of_block (Below.heap_alloc _ _ _ hlt)]; exact c0
      go_wp2_with (at_builtin; refine wpList_append_own_at _ (o := ⟨some 22, _, _, _, _, _⟩) rfl (.tmp 20) (.tmp 21) 30 rfl 0 5 i0 (.int .u8 0) 1 1 Try.underlying30 hi'.out hz0'.out hz1'.out hz2'.out rfl (by decide) (.slice oa' (L + q) oc') (L + q) _ rfl (HROW.out.alloc _) ⟨wr.heap.size, 0, none⟩ 1 1 [.int .u8 0] rfl rfl (World.news_of_block (heap_alloc_new wr _)) (by simp [Value.oneCell']) (by unfold maxLen; omega) (by omega) (Nat.zero_le _) ?_; intro v5 w5 hown5 hgrow5 hnil5 hat5; obtain ⟨a5, k5, rfl⟩ := own_form hown5; obtain ⟨c5, z5⟩ := HT.out.wr.p5 (frA wr _) hgrow5; have HO5 := hid hown5; have HG5 := hid hgrow5; have HA5 := hid hat5; clear hown5 hgrow5 hnil5 hat5)
      have hpu := HT.out.wr.push (zs := [0]) (frA wr _) HO5.out HG5.out (fun j hj => by
        rcases HA5.out with h1 | h1
        · exact .inl (h1.symm.trans hj)
        · rw [hj] at h1; cases h1; exact .inr (by simp))
      have hpu2 := HT.out.trans hpu
      rw [List.append_assoc, show List.replicate q (0 : Int) ++ [0] = List.replicate (q + 1) 0 from (List.replicate_succ' (n := q) (a := (0 : Int))).symm] at hpu2
      have HP := hid hpu2
      clear hpu hpu2
      go_roundw
      case rel => exact ⟨q + 1, by omega, by go_num, hid ⟨_, HP.out⟩⟩
      case measure => simp [intOf]; omega
    · obtain rfl : q = g := by omega
      go_wp2
      go_loopw [6, 27] (fun _ i wr => ∃ j : Nat, j ≤ k ∧ i = .int .i64 j ∧ RowKit.Hid (∃ v', WrTo w p v wr v' (xs ++ List.replicate q 0 ++ byt n j))) (fun _ i _ => k - (intOf i).toNat)
      case atStart => exact ⟨0, by omega, rfl, hid ⟨_, by simpa [byt] using HT.out⟩⟩
      case round =>
        clear HT HROW c0 z0 hlt
        obtain ⟨j, hj, rfl, HR⟩ := hrel
        obtain ⟨v', ht⟩ := HR.out
        have c0 := ht.wr.c0
        obtain ⟨ob, oc2, hov⟩ := own_form ht.wr.row
        have hlen : (xs ++ List.replicate q (0 : Int) ++ byt n j).length = L + q + j := by rw [HLL.out]; simp [byt_len]; omega
        rw [hlen] at hov
        have hrow := ht.wr.row
        rw [hlen] at hrow
        have hlt := ht.wr.lt
        have z0 := ht.wr.fz 0
        have HT := hid ht
        have HROW := hid hrow
        clear HR ht hlen hrow
        subst hov
        by_cases hjk : j < k
        · have hw8 : IntKind.i64.wrap (8 * (j : Int)) = 8 * (j : Int) := IntWalk.i64_in _ (by omega)
          have hj8 : j < 8 := by omega
          go_wp2
          refine wp_region_mix [0, 0, 0, 0, 1, 0, 0, 0, 0, 0, 2, 2, 0, 0, 3] (fun W => W.cell? ⟨p, 0, none⟩ = some (.slice ob (L + q + j) oc2)) (by kernel_rfl) (by kernel_rfl) (by simpa using c0) ?_
          repeat (first
            | (refine' wpMix_value _ rfl rfl _ _; rotate_left; (solve | (intro W; go_simp) | (intro W; go_simp; with_reducible rfl)); simp only [Act.put, List.setIfInBounds_toArray, List.set_cons_zero, List.set_cons_succ])
            | (refine' wpMix_read _ rfl rfl _ _; rotate_left; (solve | (rintro W h1; go_simp) | (rintro W h1; go_simp; with_reducible rfl)); simp only [Act.put, List.setIfInBounds_toArray, List.set_cons_zero, List.set_cons_succ]))
          have hx8 : IntKind.u8.wrap (n / 2 ^ (8 * (j : Int)).toNat) = n / 256 ^ j % 256 := by
            rw [show (8 * (j : Int)).toNat = 8 * j by omega, pow8]
            rfl
          rw [hx8]
          obtain ⟨x, hx⟩ : ∃ x, x = n / 256 ^ j % 256 := ⟨_, rfl⟩
          rw [← hx]
          have HX := hid hx
          obtain ⟨w2, hw2⟩ : ∃ w2, w2 = wr.drew := ⟨_, rfl⟩
          rw [← hw2]
          have ht2 : WrTo w p v w2 (.slice ob (L + q + j) oc2) (xs ++ List.replicate q 0 ++ byt n j) := by
            rw [hw2]
            exact HT.out.trans ⟨HT.out.wr.fr ((Fr.refl (fun _ => False) wr).drew) (fun h => h) (fun _ _ h => h), (Fr.refl _ wr).drew, fun _ h => .inl h⟩
          have c02 : w2.cell? ⟨p, 0, none⟩ = some (.slice ob (L + q + j) oc2) := ht2.wr.c0
          have hlt2 := ht2.wr.lt
          have hrow2 : w2.ownsRow 0 5 1 (.slice ob (L + q + j) oc2) (L + q + j) (u8l (xs ++ List.replicate q 0 ++ byt n j)) := by rw [hw2]; exact HROW.out
          have HT2 := hid ht2
          have HROW2 := hid hrow2
          clear hx8 hx hw2 ht2 hrow2 HT HROW c0 z0 hlt hw8
          refine wpMix_write (.slice (some ⟨w2.heap.size, 0, none⟩) 1 1) (w2.alloc (.cells #[.int .u8 x] 5)) (by decide) rfl ?nrun1 ?nS1 ?nrest1
          case nrun1 => go_simp
          case nS1 => exact fun _ => by rw [World.cell?_of_block (Below.heap_alloc _ _ _ hlt2)]; exact c02
          simp only [Act.put, List.setIfInBounds_toArray, List.set_cons_zero, List.set_cons_succ]
          refine wpMix_append (by decide) rfl (.tmp 34) (.tmp 40) 30 rfl 0 5 i0 _ 1 1 Try.underlying30 hi'.out hz0'.out hz1'.out hz2'.out rfl (by decide) (.slice ob (L + q + j) oc2) (L + q + j) _ rfl (HROW2.out.alloc _) ⟨w2.heap.size, 0, none⟩ 1 1 [.int .u8 x] rfl rfl (World.news_of_block (heap_alloc_new _ _)) (by simp [Value.oneCell']) (by decide) (by unfold maxLen; omega) (by omega) (Nat.zero_le _) (w2.heap.size + 1) (by simp) ?_
          intro g3 k3 w3 hown3 hgrow3 hat3 hlt3
          obtain ⟨c5, z5⟩ := HT2.out.wr.p5 (frA w2 _) hgrow3
          refine ⟨fun _ => c5, ?_⟩
          have HO := hid hown3
          have HG := hid hgrow3
          have HA3 := hid hat3
          clear hown3 hgrow3 hat3
          simp only [Act.put, List.setIfInBounds_toArray, List.set_cons_zero, List.set_cons_succ]
          repeat (first
            | (refine' wpMix_value _ rfl rfl _ _; rotate_left; (solve | (intro W; go_simp) | (intro W; go_simp; with_reducible rfl)); simp only [Act.put, List.setIfInBounds_toArray, List.set_cons_zero, List.set_cons_succ]))
          refine wpMix_skip (w3.setCell ⟨p, 0, none⟩ (.slice (some ⟨g3, 0, none⟩) (L + q + j + 1) k3)) (by decide) rfl ?nrun2 (fun h => by cases h) ?nrest2
          case nrun2 => go_simp
          simp only [Act.put]
          refine wpMix_end ?_
          have hpu := HT2.out.wr.push (zs := [x]) (frA w2 _) HO.out HG.out (fun i hi => by
            simp [Value.ownBlock] at hi
            subst hi
            rcases HA3.out with h1 | h1
            · exact .inl h1
            · exact .inr (by omega))
          have hpu2 := HT2.out.trans hpu
          have hbs : byt n (j + 1) = byt n j ++ [x] := by rw [byt_succ, HX.out]
          rw [List.append_assoc, ← hbs] at hpu2
          have HP := hid hpu2
          clear hpu hpu2 hbs c02 c5 z5
          go_wp2
          go_roundw
          case rel => exact ⟨j + 1, by omega, by go_num, hid ⟨_, HP.out⟩⟩
          case measure => simp [intOf]; omega
        · obtain rfl : j = k := by omega
          go_wp2
          refine bodyPost_end (results_none rfl _ _ _) rfl ?_
          have h1 := HT.out
          rw [HG.out] at h1
          exact ⟨rfl, _, h1⟩

set_option maxRecDepth 100000 in
theorem numOk_no {n s : Int} (h : fits s = false) : numOk n s = false := by simp [numOk, h]
set_option maxRecDepth 100000 in
theorem numOk_nat {n : Int} {k : Nat} (h : Siz k) : numOk n k = decide (n < 256 ^ k) := by simp [numOk, h.fits]
/-- What Num answers. -/
def code (b : Bool) : Int := if b then 0 else 1
def NumPost (w : World) (p : Nat) (v : Value) (xs : List Int) (n s : Int) (e : Ending) (w' : World) : Prop := e = .returned (.int .i64 (code (numOk n s))) ∧ ∃ v', WrTo w p v w' v' (if numOk n s then lay xs n s.toNat else xs)
set_option maxRecDepth 100000 in
theorem Num_any (w : World) (p : Nat) (v : Value) (xs : List Int) (n s : Int) (h : WrW w p v xs) (h0 : 0 ≤ n) (hl : xs.length ≤ 100000000000000) :
    Calls Try.prog 38 #[.pointer (some ⟨p, 0, none⟩), .int .u64 n, .int .i64 s] w (NumPost w p v xs n s) := by
  have HS := hid (fun w => isSize_any s w)
  cases hf : fits s with
  | false =>
    have hno := numOk_no (n := n) hf
    have HP := hid (show NumPost w p v xs n s (.returned (.int .i64 1)) w from ⟨by rw [hno]; rfl, v, by rw [hno]; exact WrTo.refl h⟩)
    rw [hf] at HS
    clear hf hno h h0 hl
    go_enter Try.func38, Try.ntmps38
    go_wp2_with (go_at_call 56; refine (HS.out _).mono ?_; rintro e w' ⟨rfl, rfl⟩)
    go_ret
    exact HP.out
  | true =>
    obtain ⟨k, rfl, hk⟩ := fits_nat hf
    have hn := numOk_nat (n := n) hk
    have HR := hid (fun w => hasRoom_any n k w hk h0)
    have HL := hid (lay_any w p v xs n k h hk hl)
    rw [hf] at HS
    cases hd : decide (n < 256 ^ k) with
    | false =>
      rw [hd] at hn HR
      have HP := hid (show NumPost w p v xs n k (.returned (.int .i64 1)) w from ⟨by rw [hn]; rfl, v, by rw [hn]; exact WrTo.refl h⟩)
      clear hf hn h h0 hl hd HL hk
      go_enter Try.func38, Try.ntmps38
      go_wp2_with (first | (go_at_call 56; refine (HS.out _).mono ?_; rintro e w' ⟨rfl, rfl⟩) | (go_at_call 57; refine (HR.out _).mono ?_; rintro e w' ⟨rfl, rfl⟩))
      go_ret
      exact HP.out
    | true =>
      rw [hd] at hn HR
      have HP := hid (show ∀ w', (∃ v', WrTo w p v w' v' (lay xs n k)) → NumPost w p v xs n k (.returned (.int .i64 0)) w' from fun w' h => ⟨by rw [hn]; rfl, by rw [hn]; exact h⟩)
      clear hf hn h h0 hl hd hk
      go_enter Try.func38, Try.ntmps38
      go_wp2_with (first | (go_at_call 56; refine (HS.out _).mono ?_; rintro e w' ⟨rfl, rfl⟩) | (go_at_call 57; refine (HR.out _).mono ?_; rintro e w' ⟨rfl, rfl⟩) | (go_at_call 58; refine HL.out.mono ?_; rintro e w2 ⟨rfl, h2⟩; have H2 := hid h2; clear h2))
      go_ret
      exact HP.out _ H2.out
set_option maxRecDepth 100000 in
theorem Num_nil (w : World) (n s : Int) : Calls Try.prog 38 #[.pointer none, .int .u64 n, .int .i64 s] w fun e w' => e = .returned (.int .i64 1) ∧ w = w' := by
  go_enter Try.func38, Try.ntmps38
  go_wp2
  go_ret
  exact ⟨rfl, rfl⟩

/-- A writer that a call made for itself. -/
structure WrOwn (w0 w : World) (p : Nat) (v : Value) (xs : List Int) : Prop where
  wr : WrW w p v xs
  below : Below w0.heap.size w0 w
  lo : w0.heap.size ≤ p
  own : ∀ j, v.ownBlock = some j → w0.heap.size ≤ j
set_option maxRecDepth 100000 in
theorem WrOwn.new (w : World) : WrOwn w (w.alloc (.cells #[.slice none 0 0] 72)) w.heap.size (.slice none 0 0) [] :=
  ⟨⟨heap_alloc_new _ _, World.ownsRow_nil _ _ _ _, by simp [Value.ownBlock]⟩, (Below.refl _ _).alloc (Nat.le_refl _) _, Nat.le_refl _, fun j h => by simp [Value.ownBlock] at h⟩
set_option maxRecDepth 100000 in
theorem WrOwn.fp {w0 w : World} {p : Nat} {v : Value} {xs : List Int} (h : WrOwn w0 w p v xs) : ∀ k, (k = p ∨ v.ownBlock = some k) → w0.heap.size ≤ k := fun k hk => by
  rcases hk with rfl | hk
  · exact h.lo
  · exact h.own k hk
set_option maxRecDepth 100000 in
theorem WrOwn.to {w0 w w' : World} {p : Nat} {v v' : Value} {xs ys : List Int} (h : WrOwn w0 w p v xs) (k : WrTo w p v w' v' ys) : WrOwn w0 w' p v' ys :=
  ⟨k.wr, h.below.trans (k.fr.below h.below.size h.fp), h.lo, fun j hj => by
    rcases k.own j hj with h1 | h1
    · exact h.own j h1
    · exact Nat.le_trans h.below.size h1⟩
set_option maxRecDepth 100000 in
theorem WrOwn.on {w0 w w' : World} {p : Nat} {v : Value} {xs : List Int} (h : WrOwn w0 w p v xs) (hB : Below w.heap.size w w') : WrOwn w0 w' p v xs :=
  ⟨h.wr.fr (Fr.of_below (fp := fun _ => False) hB) (fun h => h) (fun _ _ h => h), h.below.trans (hB.mono h.below.size), h.lo, h.own⟩
set_option maxRecDepth 100000 in
theorem Num_good (w : World) (p : Nat) (v : Value) (xs : List Int) (n s : Int) (h : WrW w p v xs) (h0 : 0 ≤ n) (hl : xs.length ≤ 100000000000000) (hg : numOk n s = true) :
    Calls Try.prog 38 #[.pointer (some ⟨p, 0, none⟩), .int .u64 n, .int .i64 s] w fun e w' => e = .returned (.int .i64 0) ∧ ∃ v', WrTo w p v w' v' (lay xs n s.toNat) := by
  refine (Num_any w p v xs n s h h0 hl).mono ?_
  rintro e w' ⟨h1, h2⟩
  rw [hg] at h1 h2
  exact ⟨h1, h2⟩
end Go.Proofs.Ytceeipejhmnkfaa
