/-
  TallyBack: what was counted up, key by key; a row of acts; the walk.
-/
import Derived.Test.YtmmmjkmhlkkdkaaTlT
import Derived.Test.YtmmmjkmhlkkdkaaPick
import Derived.Test.YtmmmjkmhlkkdkaaBd
namespace Go.Proofs.Ytmmmjkmhlkkdkaa
open Go.ChangeShapes Go.WideShapes Go.ChangeAt Go.RowKit Go.Maps Go.Shelf

/-- How much was counted at a key. -/
def sumK (D : List Act3) (k : Int) : Int := ((D.filter fun a => a.key == k).map (·.n)).sum
theorem sumK_nil (k : Int) : sumK [] k = 0 := rfl
theorem sumK_cons (a : Act3) (D : List Act3) (k : Int) : sumK (a :: D) k = (if a.key = k then a.n else 0) + sumK D k := by
  unfold sumK
  by_cases h : a.key = k <;> simp [h]
theorem sumK_append (D E : List Act3) (k : Int) : sumK (D ++ E) k = sumK D k + sumK E k := by
  induction D with
  | nil => simp [sumK_nil]
  | cons a r ih => rw [List.cons_append, sumK_cons, sumK_cons, ih]; omega
theorem sumK_ge (D : List Act3) (h : ∀ a ∈ D, 0 ≤ a.n) (k : Int) : 0 ≤ sumK D k := by
  induction D with
  | nil => simp [sumK_nil]
  | cons a r ih =>
    rw [sumK_cons]
    have h1 := ih (fun b hb => h b (by simp [hb]))
    have h2 := h a (by simp)
    split <;> omega
/-- An act's cells. -/
def encA (x : Act3) : List Value := [.bool x.down, .int .u64 x.key, .int .u32 x.n]
theorem encA_at (L : List Act3) (q j : Nat) (x : Act3) (hx : L[q]? = some x) (hj : j < 3) : (L.flatMap encA)[q * 3 + j]? = (encA x)[j]? := by
  induction L generalizing q with
  | nil => cases hx
  | cons a r ih =>
    rw [List.flatMap_cons]
    cases q with
    | zero =>
      simp at hx; subst hx
      rw [List.getElem?_append_left (by simp [encA]; omega)]
      simp
    | succ q =>
      rw [List.getElem?_append_right (by simp [encA]; omega)]
      have := ih q (by simpa using hx)
      rw [← this]
      congr 1
      simp [encA]
      omega
theorem info33 : (Try.prog.info? 33).map (fun i => (i.zero, i.size, i.bytes)) = some (some (.agg #[.bool false, .int .u64 0, .int .u32 0]), 3, 24) := by kernel_rfl
/-- The list that begins at a place and goes round. -/
def turned (D : List Act3) (at' : Nat) : List Act3 := D.drop at' ++ D.take at'
theorem turned_len (D : List Act3) (at' : Nat) (h : at' ≤ D.length) : (turned D at').length = D.length := by simp [turned]; omega
theorem turned_get (D : List Act3) (at' j : Nat) (h : at' < D.length) (hj : j < D.length) : (turned D at')[j]? = D[(at' + j) % D.length]? := by
  unfold turned
  by_cases hlt : at' + j < D.length
  · rw [List.getElem?_append_left (by simp; omega), List.getElem?_drop, Nat.mod_eq_of_lt hlt]
  · rw [List.getElem?_append_right (by simp; omega), List.getElem?_take_of_lt (by simp; omega)]
    congr 1
    rw [List.length_drop]
    have : (at' + j) % D.length = at' + j - D.length := by
      rw [Nat.mod_eq_sub_mod (by omega), Nat.mod_eq_of_lt (by omega)]
    omega
theorem turned_sum (D : List Act3) (at' : Nat) (k : Int) : sumK (turned D at') k = sumK D k := by
  unfold turned
  rw [sumK_append]
  conv => rhs; rw [← List.take_append_drop at' D, sumK_append]
  omega

theorem turned_mem {D : List Act3} {q : Nat} {b : Act3} (h : b ∈ turned D q) : b ∈ D := by
  unfold turned at h
  rcases List.mem_append.1 h with h | h
  · exact List.mem_of_mem_drop h
  · exact List.mem_of_mem_take h
/-- What comes at a place of the list that goes round. -/
theorem turned_at (D : List Act3) (q j : Nat) (hq : q < D.length) (hj : j < D.length) : ∃ (x : Act3) (r : Nat), (q + j) % D.length = r ∧ r < D.length ∧ D[r]? = some x ∧
    (∀ k, sumK ((turned D q).drop j) k = (if x.key = k then x.n else 0) + sumK ((turned D q).drop (j + 1)) k) ∧ x ∈ D := by
  have hr : (q + j) % D.length < D.length := Nat.mod_lt _ (by omega)
  refine ⟨D[(q + j) % D.length], _, rfl, hr, List.getElem?_eq_getElem hr, fun k => ?_, List.getElem_mem hr⟩
  have hl : j < (turned D q).length := by rw [turned_len D q (by omega)]; exact hj
  have e := turned_get D q j hq hj
  rw [List.getElem?_eq_getElem hl, List.getElem?_eq_getElem hr] at e
  rw [List.drop_eq_getElem_cons hl, sumK_cons, Option.some.inj e]
/-- Between two rounds of counting up. -/
structure BackInv (w0 : World) (p b n : Nat) (l : TM) (D : List Act3) (dv : Value) (wr : World) : Prop where
  tl : TlW wr p b n 4294967295 l
  below : Below w0.heap.size w0 wr
  row : wr.ownsRow (w0.heap.size + 2) 33 3 dv D.length (D.flatMap encA)
  pb : p = w0.heap.size + 1 ∧ b = w0.heap.size
  get : ∀ k, getM l k = sumK D k
  ok : ∀ a ∈ D, U64 a.key ∧ U32 a.n
  len : D.length ≤ n
def BackRel (w0 : World) (k : Nat) (dv : Value) (wr : World) : Prop := ∃ l D, BackInv w0 (w0.heap.size + 1) w0.heap.size k l D dv wr

/-- Between two rounds of counting down. -/
structure DownAt (w0 : World) (dn : List Act3) (q j : Nat) (dv : Value) (l : TM) (wr : World) : Prop where
  tl : TlW wr (w0.heap.size + 1) w0.heap.size (100 + j) 4294967295 l
  below : Below w0.heap.size w0 wr
  row : wr.ownsRow (w0.heap.size + 2) 33 3 dv dn.length (dn.flatMap encA)
  get : ∀ k, getM l k = sumK ((turned dn q).drop j) k
  ok : ∀ a ∈ dn, U64 a.key ∧ U32 a.n
def DownInv (w0 : World) (dn : List Act3) (q j : Nat) (dv : Value) (wr : World) : Prop := ∃ l, DownAt w0 dn q j dv l wr
theorem DownInv.start {w0 wr : World} {p b n q : Nat} {l : TM} {dn : List Act3} {dv : Value} (h : BackInv w0 p b n l dn dv wr) (hn : n ≤ 100) : DownInv w0 dn q 0 dv wr := by
  obtain ⟨rfl, rfl⟩ := h.pb
  exact ⟨l, h.tl.mono (by omega), h.below, h.row, fun k => by rw [List.drop_zero, turned_sum]; exact h.get k, h.ok⟩

set_option maxHeartbeats 2000000 in
set_option maxRecDepth 100000 in
theorem Back_any (w : World) (t : Int) (ad : Option Addr) (cap : Nat) (l : List Act3) (ht : I64 t) (hl : Acts w w.heap.size ad l) (hll : l.length ≤ 9223372036854775807) : Calls Try.prog 5 #[.slice ad l.length cap, .int .i64 t] w fun e w' => e = .returned (.bool true) ∧ Below w.heap.size w w' := by
  have HL := hid hl
  have HN := hid (New_tl 4294967295 w (by decide) (by decide))
  have HLL := hid hll
  obtain ⟨i0, hi, hz0, hz1, hz2⟩ := info_parts info33
  have hi' := hid hi
  have hz0' := hid hz0
  have hz1' := hid hz1
  have hz2' := hid hz2
  clear hl hll hi hz0 hz1 hz2
  go_enter Try.func5, Try.ntmps5
  go_wp2_with fail
  refine HN.out.mono ?_
  rintro e w1 ⟨rfl, t1, b1⟩
  clear HN
  go_wp2
  go_loopw [6, 7] (fun d i wr => ∃ k : Nat, k ≤ l.length ∧ k ≤ 100 ∧ i = .int .i64 k ∧ BackRel w k d wr) (fun _ i _ => 100 - (intOf i).toNat)
  case atStart => exact ⟨0, by omega, by omega, rfl, [], [], t1, b1, World.ownsRow_nil _ _ _ _, ⟨rfl, rfl⟩, fun k => rfl, by simp, by simp⟩
  case round =>
    obtain ⟨k, hk1, hk2, rfl, L, dn, R⟩ := hrel
    clear t1 b1
    by_cases hlt : k < l.length ∧ k < 100
    · obtain ⟨hkl, hk100⟩ := hlt
      have hx : l[k]? = some l[k] := List.getElem?_eq_getElem hkl
      have hxok := HL.out.ok l[k] (List.getElem_mem hkl)
      generalize l[k] = x at hx hxok
      obtain ⟨a, rfl, hab⟩ := HL.out.some (by omega)
      have hac := HL.out.below R.below
      have x0 := hac.at0 k a x rfl hx
      have x1 := hac.at1 k a x rfl hx
      have x2 := hac.at2 k a x rfl hx
      have HR := hid R
      have HX := hid hx
      have HXO := hid hxok
      clear R hac hx hxok
      have tD := HR.out.tl.fr (fp := fun _ => False) (Fr.refl _ wr).drew (fun h => h) (fun h => h)
      by_cases hfit : getM L x.key + x.n ≤ 4294967295
      · have hUp := hid (Up_yes wr.drew _ _ _ _ x.key x.n L tD (by omega) HXO.out.1.1 HXO.out.1.2 HXO.out.2.1 hfit)
        clear tD hfit
        go_wp2
        refine D.wp_region_mix [0, 0, 0, 0, 0, 1, 0, 0, 0, 0, 1, 3, 0, 0, 0, 0, 0] (fun W => W.cell? ⟨(a.add (k * 3)).block, (a.add (k * 3)).off + 1, none⟩ = some (.int .u64 x.key) ∧ W.cell? ⟨(a.add (k * 3)).block, (a.add (k * 3)).off + 2, none⟩ = some (.int .u32 x.n)) (by kernel_rfl) (by kernel_rfl) ⟨x1, x2⟩ ?_
        repeat (first
          | (refine' C.wpMix_value _ rfl rfl _ _; rotate_left; (solve | (intro W; go_simp) | (intro W; go_simp; with_reducible rfl)); simp only [Act.put, List.setIfInBounds_toArray, List.set_cons_zero, List.set_cons_succ])
          | (refine' C.wpMix_read _ rfl rfl _ _; rotate_left; (solve | (rintro W ⟨h1, h2⟩; go_simp) | (rintro W ⟨h1, h2⟩; go_simp; with_reducible rfl)); simp only [Act.put, List.setIfInBounds_toArray, List.set_cons_zero, List.set_cons_succ]))
        refine C.wpMix_call 18 #[.pointer (some ⟨w.heap.size + 1, 0, none⟩), .int .u64 x.key, .int .u32 x.n] (by decide) rfl (by go_simp) ?_
        refine hUp.out.mono ?_
        rintro e w4 ⟨rfl, t4, f4⟩
        refine ⟨_, rfl, (fun h => by cases h), ?_⟩
        simp only [Act.put, List.setIfInBounds_toArray, List.set_cons_zero, List.set_cons_succ]
        repeat (first
          | (refine' C.wpMix_value _ rfl rfl _ _; rotate_left; (solve | (intro W; go_simp) | (intro W; go_simp; with_reducible rfl)); simp only [Act.put, List.setIfInBounds_toArray, List.set_cons_zero, List.set_cons_succ]))
        refine C.wpMix_end ?_
        have f4' : Fr (fun j => j = w.heap.size) wr w4 := ((Fr.refl _ wr).drew).trans f4 (fun _ h _ => h)
        have hB4 : Below w.heap.size w w4 := below_on HR.out.below f4' (fun j h => by omega)
        have hrow4 := f4'.owns HR.out.row (fun j hj e => by have := (HR.out.row.lt j hj).1; omega)
        have hac4 := HL.out.below hB4
        have z0 := hac4.at0 k a x rfl HX.out
        have z1 := hac4.at1 k a x rfl HX.out
        have z2 := hac4.at2 k a x rfl HX.out
        obtain ⟨da, dk, hdv⟩ : ∃ a' k', u6 = .slice a' dn.length k' := by
          rcases hrow4.2 with ⟨q1, q2⟩ | ⟨g, cap', _, q1, _⟩
          · exact ⟨none, 0, by rw [q1, q2]⟩
          · exact ⟨_, cap', q1⟩
        subst hdv
        have hlen := HR.out.len
        have T4 := hid t4
        have HB4 := hid hB4
        have HR4 := hid hrow4
        have hsz4 : w.heap.size + 1 < w4.heap.size := t4.lt
        clear t4 f4 f4' hB4 hrow4 hac4 hUp x0 x1 x2
        go_wp2_with (at_builtin; refine wpList_append_lies _ (o := ⟨some 49, _, _, _, _, _⟩) rfl (.tmp 43) (.tmp 48) 23 rfl (w.heap.size + 2) 33 i0 (.agg #[.bool false, .int .u64 0, .int .u32 0]) 3 24 Try.underlying23 hi'.out hz0'.out hz1'.out hz2'.out rfl (by decide) (.slice da dn.length dk) dn.length _ rfl (HR4.out.alloc _) ⟨w4.heap.size, 0, none⟩ 1 1 [.bool x.down, .int .u64 x.key, .int .u32 x.n] rfl rfl (World.news_of_block (heap_alloc_new w4 _)) (by simp [Value.oneCell']) (by decide) (by unfold maxLen; omega) (by omega) (by simp; omega) (w4.heap.size + 1) (by simp) ?_; intro g5 k5 w5 hown5 hgrow5 hat5 hlt5; have HO5 := hid hown5; have HG5 := hid hgrow5; clear hown5 hgrow5 hat5)
        go_roundw
        case rel =>
          have hfr5 : Fr (fun j => w.heap.size + 2 ≤ j) w4 w5 := ((Fr.refl _ w4).alloc _).grown HG5.out (fun j hj _ => (HR4.out.lt j hj).1)
          refine ⟨k + 1, by omega, by omega, by go_num, _, dn ++ [x], T4.out.fr hfr5 (by omega) (by omega), below_on HB4.out hfr5 (fun j h => by omega), ?_, ⟨rfl, rfl⟩, fun key => ?_, ?_, by simp; omega⟩
          · rw [List.length_append, List.flatMap_append]
            simpa [encA] using HO5.out
          · rw [sumK_append, sumK_cons, sumK_nil, ← HR.out.get]
            by_cases e : x.key = key
            · subst e; rw [get_set_same]; simp
            · rw [get_set_other _ _ _ (Ne.symm e)]; simp [e]
          · intro b hb
            rcases List.mem_append.1 hb with hb | hb
            · exact HR.out.ok b hb
            · simp at hb; subst hb; exact HXO.out
        case measure => simp [intOf]; omega
      · have hUp := hid (Up_no wr.drew _ _ _ _ x.key x.n L tD HXO.out.1.1 HXO.out.1.2 HXO.out.2.2 (by omega))
        clear tD hfit
        go_wp2
        refine D.wp_region_mix [0, 0, 0, 0, 0, 1, 0, 0, 0, 0, 1, 3, 0, 0, 0, 0, 0] (fun W => W.cell? ⟨(a.add (k * 3)).block, (a.add (k * 3)).off + 1, none⟩ = some (.int .u64 x.key) ∧ W.cell? ⟨(a.add (k * 3)).block, (a.add (k * 3)).off + 2, none⟩ = some (.int .u32 x.n)) (by kernel_rfl) (by kernel_rfl) ⟨x1, x2⟩ ?_
        repeat (first
          | (refine' C.wpMix_value _ rfl rfl _ _; rotate_left; (solve | (intro W; go_simp) | (intro W; go_simp; with_reducible rfl)); simp only [Act.put, List.setIfInBounds_toArray, List.set_cons_zero, List.set_cons_succ])
          | (refine' C.wpMix_read _ rfl rfl _ _; rotate_left; (solve | (rintro W ⟨h1, h2⟩; go_simp) | (rintro W ⟨h1, h2⟩; go_simp; with_reducible rfl)); simp only [Act.put, List.setIfInBounds_toArray, List.set_cons_zero, List.set_cons_succ]))
        refine C.wpMix_call 18 #[.pointer (some ⟨w.heap.size + 1, 0, none⟩), .int .u64 x.key, .int .u32 x.n] (by decide) rfl (by go_simp) ?_
        refine hUp.out.mono ?_
        rintro e w4 ⟨rfl, hw4⟩
        refine ⟨_, rfl, (fun h => by cases h), ?_⟩
        simp only [Act.put, List.setIfInBounds_toArray, List.set_cons_zero, List.set_cons_succ]
        repeat (first
          | (refine' C.wpMix_value _ rfl rfl _ _; rotate_left; (solve | (intro W; go_simp) | (intro W; go_simp; with_reducible rfl)); simp only [Act.put, List.setIfInBounds_toArray, List.set_cons_zero, List.set_cons_succ]))
        refine C.wpMix_end ?_
        subst hw4
        go_wp2
        go_roundw
        case rel =>
          exact ⟨k + 1, by omega, by omega, by go_num, L, dn, (HR.out.tl.fr (fp := fun _ => False) (Fr.refl _ wr).drew (fun h => h) (fun h => h)).mono (by omega), HR.out.below.trans (Below.refl _ _).drew, HR.out.row.drew, ⟨rfl, rfl⟩, HR.out.get, HR.out.ok, by have := HR.out.len; omega⟩
        case measure => simp [intOf]; omega
    · have hlt2 : k = l.length ∨ (k = 100 ∧ 100 < l.length) := by omega
      have HR := hid R
      have hlen := HR.out.len
      obtain ⟨da, dk, hdv⟩ : ∃ a' k', u6 = .slice a' dn.length k' := by
        rcases HR.out.row.2 with ⟨q1, q2⟩ | ⟨g, cap', _, q1, _⟩
        · exact ⟨none, 0, by rw [q1, q2]⟩
        · exact ⟨_, cap', q1⟩
      subst hdv
      obtain ⟨q, hq, hpick⟩ : ∃ q : Nat, (q < dn.length ∨ q = 0) ∧ Calls Try.prog 11 #[.int .i64 t, .int .i64 dn.length] wr fun e w' => e = .returned (.int .i64 q) ∧ wr = w' := by
        by_cases h0 : dn.length = 0
        · exact ⟨0, .inr rfl, by rw [h0]; exact Pick_low t 0 wr (by omega)⟩
        · have h1 := Pick_any t dn.length wr ht (by omega) (by omega)
          have h2 := Int.emod_nonneg t (show (dn.length : Int) ≠ 0 by omega)
          have h3 := Int.emod_lt_of_pos t (show (0 : Int) < dn.length by omega)
          obtain ⟨q, hq⟩ : ∃ q : Nat, t % (dn.length : Int) = q := ⟨(t % (dn.length : Int)).toNat, by omega⟩
          rw [hq] at h1
          exact ⟨q, .inl (by omega), h1⟩
      have HP := hid hpick
      clear R hlt hpick
      rcases hlt2 with rfl | ⟨rfl, hlong⟩
      all_goals
        go_wp2_with fail
        refine HP.out.mono ?_
        rintro e w' ⟨rfl, rfl⟩
        go_wp2
        go_loopw [11] (fun i wx => ∃ j : Nat, j ≤ dn.length ∧ i = .int .i64 j ∧ RowKit.Hid (DownInv w dn q j (.slice da dn.length dk) wx)) (fun i _ => dn.length - (intOf i).toNat)
        case atStart => exact ⟨0, by omega, rfl, hid (DownInv.start HR.out (by omega))⟩
        case round =>
          obtain ⟨j, hj, rfl, RD⟩ := hrel
          by_cases hjl : j < dn.length
          · obtain ⟨L2, RD2⟩ := RD.out
            obtain ⟨x, r, hr, hrl, hx, hsum, hxm⟩ := turned_at dn q j (by omega) hjl
            have hge : x.n ≤ getM L2 x.key := by
              rw [RD2.get, hsum, if_pos rfl]
              have := sumK_ge ((turned dn q).drop (j + 1)) (fun b hb => (RD2.ok b (turned_mem (List.mem_of_mem_drop hb))).2.1) x.key
              omega
            have hxok := RD2.ok x hxm
            obtain ⟨g, k', hvf, _⟩ := RD2.row.form (by omega)
            simp only [Value.slice.injEq] at hvf
            obtain ⟨rfl, -, rfl⟩ := hvf
            have z0 := (RD2.row.cellAt (r * 3) (by omega)).trans (encA_at dn r 0 x hx (by omega))
            have z1 := (RD2.row.cellAt (r * 3 + 1) (by omega)).trans (encA_at dn r 1 x hx (by omega))
            have z2 := (RD2.row.cellAt (r * 3 + 2) (by omega)).trans (encA_at dn r 2 x hx (by omega))
            simp only [encA, List.getElem?_cons_succ, List.getElem?_cons_zero] at z0 z1 z2
            have hm1 : ((q : Int) + (j : Int)) % (dn.length : Int) = (r : Int) := by rw [← hr, Int.natCast_emod, Int.natCast_add]
            have hm2 : ((q : Int) + (j : Int)).tmod (dn.length : Int) = (r : Int) := by rw [Int.tmod_eq_emod_of_nonneg (by omega)]; exact hm1
            have hn0 : ¬ (dn.length : Int) = 0 := by omega
            have tA := RD2.tl.fr ((Fr.refl (fun _ => False) wr).alloc (.cells #[.bool x.down, .int .u64 x.key, .int .u32 x.n] 33)) (fun h => h) (fun h => h)
            have hDn := hid (Down_yes (wr.alloc (.cells #[.bool x.down, .int .u64 x.key, .int .u32 x.n] 33)) _ _ _ _ x.key x.n L2 tA (by omega) hxok.1.1 hxok.1.2 hxok.2.1 hge)
            have H2 := hid RD2
            have HS := hid hsum
            have HXO := hid hxok
            clear RD RD2 hr hx hsum hxm tA hge hxok
            go_wp2_with fail
            refine hDn.out.mono ?_
            rintro e w4 ⟨rfl, t4, f4⟩
            have T4 := hid t4
            have F4 := hid f4
            clear t4 f4 hDn z0 z1 z2
            go_wp2
            go_roundw
            case rel =>
              have f5 : Fr (fun i => i = w.heap.size) wr w4 := ((Fr.refl _ wr).alloc _).trans F4.out (fun _ h _ => h)
              refine ⟨j + 1, by omega, by go_num, hid ⟨_, T4.out, below_on H2.out.below f5 (fun i h => by omega), f5.owns H2.out.row (fun i hi e => by have := (H2.out.row.lt i hi).1; omega), fun key => ?_, H2.out.ok⟩⟩
              by_cases e : x.key = key
              · subst e
                rw [get_set_same, H2.out.get, HS.out, if_pos rfl]
                omega
              · rw [get_set_other _ _ _ (Ne.symm e), H2.out.get, HS.out, if_neg e]
                omega
            case measure => simp [intOf]; omega
          · obtain rfl : j = dn.length := by omega
            obtain ⟨L2, RD2⟩ := RD.out
            have hnil : L2 = [] := nil_of_get RD2.tl.good fun key => by
              rw [RD2.get, List.drop_of_length_le (by unfold turned; simp; omega)]
              rfl
            subst hnil
            have hSum := hid (Sum_any wr _ _ _ _ _ RD2.tl (by omega))
            have hT := hid RD2.tl
            have hB := hid RD2.below
            clear RD RD2
            go_wp2_with fail
            refine hSum.out.mono ?_
            rintro e w2 ⟨rfl, f2⟩
            have t2 := hT.out.fr f2 (fun h => h) (fun h => h)
            have hb2 := below_on hB.out f2 (fun i h => h.elim)
            have hTold := hid (told_any _ _ _ _ _ 9 w2 t2 (by decide) (by omega))
            have HB2 := hid hb2
            clear f2 t2 hb2 hSum
            have hs0 : sumM [] = 0 := rfl
            rw [hs0]
            clear hs0
            go_wp2_with fail
            refine hTold.out.mono ?_
            rintro e w3 ⟨lv, rfl, hrow3, hb3⟩
            obtain ⟨la, lk, hlv⟩ : ∃ a' k', lv = .slice a' 0 k' := by
              rcases hrow3.2 with ⟨q1, q2⟩ | ⟨g, cap', _, q1, _⟩
              · exact ⟨none, 0, q1⟩
              · exact ⟨_, cap', q1⟩
            subst hlv
            have HB3 := hid (HB2.out.trans (hb3.mono HB2.out.size))
            clear hrow3 hb3 hTold HB2
            go_wp2_with (refine (awake_any w3).mono ?_; rintro e w5 ⟨rfl, hb5⟩)
            go_ret
            exact ⟨rfl, HB3.out.trans (hb5.mono HB3.out.size)⟩
end Go.Proofs.Ytmmmjkmhlkkdkaa
