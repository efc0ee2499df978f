/- HrB HrC HrE in one -/
import Derived.Test.YtmampaglemleoaaHrA
import Derived.Test.YtmampaglemleoaaMixC
import Derived.Test.YtmampaglemleoaaMixD
import Derived.Test.YtmampaglemleoaaHqS
namespace Go.Proofs.Ytmampaglemleoaa
open Go Go.ChangeShapes Go.WideShapes Go.ChangeAt Go.RowKit

theorem infoOp : (Try.prog.info? TOp).map (fun i => (i.zero, i.size, i.bytes)) = some (some (.pointer none), 1, 8) := by kernel_rfl
def rst (L : HL) (hd : Int) : HL := L.filter fun x => !(x.h == hd)
theorem rst_snoc (L : HL) (hd : Int) {q : Nat} {o : Ob} (h : L[q]? = some o) : rst (L.take (q + 1)) hd = rst (L.take q) hd ++ (if o.h = hd then [] else [o]) := by
  have hlt := (List.getElem?_eq_some_iff.1 h).1
  have he := (List.getElem?_eq_some_iff.1 h).2
  unfold rst
  rw [List.take_succ_eq_append_getElem hlt, List.filter_append, he]
  by_cases e : o.h = hd <;> simp [e]
/-- The new row of objects is a's; what comes later is the arena's. -/
def awF (F : Nat → Lab) (n m : Nat) : Nat → Lab := fun k => if k < n then F k else if k < m then (-3, 0) else (0, 0)
theorem awF_lt {F : Nat → Lab} {n m k : Nat} (h : k < n) : awF F n m k = F k := if_pos h
def AwP (w : World) (p pa : Nat) (A : Ar) (F : Nat → Lab) (B : Int → Nat) (top : Int) (L : HL) (hd : Int) (e : Ending) (w' : World) : Prop :=
  e = .returned (.pointer (some ⟨B hd, 0, none⟩)) ∧ ∃ i sp, Found A hd i sp ∧ ∃ Sa' F' lv', RhW w' p pa Sa' (dropAt A i sp) F' B top (rst L hd) lv' ∧ (∀ k, k < w.heap.size → F' k = F k) ∧ (∀ k, w.heap.size ≤ k → F' k = (-3, 0) ∨ F' k = (0, 0)) ∧ Fr (fun k => F k = (-1, 0) ∨ F k = (0, 0)) w w'
section
variable {w w' : World} {p pa : Nat} {Sa : Nat → Prop} {A : Ar} {F F' : Nat → Lab} {B : Int → Nat} {top : Int} {L : HL} {lv : Value} {fp : Nat → Prop}
theorem RAt_some (h : RInS Sa w pa A) {hd : Int} {i : Nat} {sp : Spot} (hf : Found A hd i sp) :
    Calls Try.prog 77 #[.pointer (some ⟨pa, 0, none⟩), .int .u64 hd] w fun e w' => e = .returned (.int .i64 i) ∧ w = w' := by
  obtain ⟨cv, fv, R, h1, h2, _⟩ := h
  refine (At_any w pa cv fv A R hd h1 h2).mono ?_
  rintro e w1 ⟨rfl, ⟨j, s, h3, rfl⟩ | ⟨h3, _⟩⟩
  · obtain ⟨rfl, _⟩ := Found.same h2 h3 hf
    exact ⟨rfl, rfl⟩
  · exact absurd hf (h3 i sp)
theorem RDrop_any (h : RInS Sa w pa A) {i : Nat} {s : Spot} (hs : A.L[i]? = some s) (ht : s.t = true) :
    Calls Try.prog 76 #[.pointer (some ⟨pa, 0, none⟩), .int .i64 i] w (RDropPost Sa w pa (dropAt A i s)) := by
  by_cases hw : s.g < 4294967295
  · exact RDrop_again Sa w pa A i s h hs ht hw
  · exact RDrop_worn Sa w pa A i s h hs ht hw
/-- Its row of objects is another one. -/
theorem RhW.row (h : RhW w p pa Sa A F B top L lv) (hz : ∀ o ∈ L, 1 ≤ o.h) {L' : HL} {lv' : Value} (hL : ∀ o ∈ L', o ∈ L) (hb : Below w.heap.size w w') (hr : w'.ownsRow w.heap.size TOp 1 lv' L'.length (opv B L')) :
    RhW (w'.setCell ⟨p, 2, none⟩ lv') p pa Sa A (nw F w.heap.size (-3, 0)) B top L' lv' := by
  have hl := h.lt
  have hlo : ∀ k, k < w.heap.size → nw F w.heap.size (-3, 0) k = F k := fun k hk => nw_lt hk
  have hfr : Fr (fun k => k = p) w (w'.setCell ⟨p, 2, none⟩ lv') := (Fr.of_below hb).setCell _ _ (fun _ => rfl)
  have nop : ∀ k l j, F k = (l, j) → l ≠ -1 → ¬ k = p := fun k l j e hne e2 => by
    rw [e2, h.fp] at e
    exact hne (congrArg Prod.fst e).symm
  have hp : w'.heap[p]? = some (.cells #[.int .u32 top, .pointer (some ⟨pa, 0, none⟩), lv] 53 (0, 0)) := by rw [hb.block _ hl]; exact h.hp
  have hlv : lv'.ownBlock ≠ some p := fun e => by have := (hr.lt _ e).1; omega
  refine ⟨by rw [heap_setCell_same _ _ _ _ _ _ hp]; rfl, h.ar.fr hfr (fun k hk => nop k _ _ (h.fa k hk) (by omega)), fun k hk => by rw [hlo k (h.ar.lt k hk)]; exact h.fa k hk, by rw [hlo p hl]; exact h.fp, ?_, ?_, ?_⟩
  · exact owns_low (ownsRow_setCell_other hr hlv _) (Nat.zero_le _)
  · intro k hk
    exact nw_ge (hr.lt k hk).1
  · intro o ho
    obtain ⟨sv, iv, hb2⟩ := h.ob o (hL o ho)
    have hnz : F (B o.h) = (o.h, 0) := hb2.fb
    refine (h.ob o (hL o ho)).fr hfr (fun k j e e2 => ?_) hlo
    rw [e2, h.fp] at e
    have := congrArg Prod.fst e
    have := hz o (hL o ho)
    simp only at *
    omega
/-- The arena has turned. -/
theorem RhW.arena (h : RhW w p pa Sa A F B top L lv) (hz : ∀ o ∈ L, 1 ≤ o.h) {Sa' : Nat → Prop} {A' : Ar} (ha : RInS Sa' w' pa A') (hf : Fr Sa w w') (hS : ∀ k, Sa' k → Sa k ∨ w.heap.size ≤ k) :
    RhW w' p pa Sa' A' (nw F w.heap.size (0, 0)) B top L lv := by
  have hlo : ∀ k, k < w.heap.size → nw F w.heap.size (0, 0) k = F k := fun k hk => nw_lt hk
  have nosa : ∀ k l j, F k = (l, j) → l ≠ 0 → ¬ Sa k := fun k l j e hl hk => by
    rw [h.fa k hk] at e
    exact hl (congrArg Prod.fst e).symm
  refine ⟨by rw [hf.block p h.lt (nosa p _ _ h.fp (by omega))]; exact h.hp, ha, fun k hk => ?_, by rw [hlo p h.lt]; exact h.fp, hf.owns h.lr (fun k hk => nosa k _ _ (h.fl k hk) (by omega)), fun k hk => by rw [hlo k (h.lr.lt k hk).2]; exact h.fl k hk, fun o ho => (h.ob o ho).fr hf (fun k j e => nosa k _ j e (by have := hz o ho; omega)) hlo⟩
  rcases hS k hk with e | e
  · rw [hlo k (h.ar.lt k e)]; exact h.fa k e
  · exact nw_ge e
set_option maxRecDepth 100000 in
set_option maxHeartbeats 4000000 in
theorem RAway_any (h : RhW w p pa Sa A F B top L lv) (hl : L.length ≤ 100000) (hz : ∀ o ∈ L, 1 ≤ o.h) {hd : Int} {o0 : Ob} (ho : fnd L hd = some o0) {i : Nat} {sp : Spot} (hf : Found A hd i sp) :
    Calls Try.prog 70 #[.pointer (some ⟨p, 0, none⟩), .int .u64 hd] w (AwP w p pa A F B top L hd) := by
  have hF := RFind_some h (by omega) ho
  obtain ⟨a, k, hv⟩ := h.shape
  obtain ⟨i0, hi, hz0, hz1, hz2⟩ := info_parts infoOp
  have hi' := hid hi
  have hz0' := hid hz0
  have hz1' := hid hz1
  have hz2' := hid hz2
  have HF := hid hF
  have HH := hid h
  have HV := hid hv
  have HZ := hid hz
  have HFO := hid hf
  have hplt := h.lt
  have c2 := h.c2
  rw [hv] at c2
  obtain ⟨n, hn⟩ : ∃ n, n = L.length := ⟨_, rfl⟩
  rw [← hn] at c2 hl
  have HN := hid hn
  clear hn hF h hv hz hf ho hi hz0 hz1 hz2
  go_enter Try.func70, Try.ntmps70
  go_wp2_with fail
  refine HF.out.mono ?_
  rintro e w1 ⟨rfl, rfl⟩
  clear HF
  go_wp2
  go_loopw [6, 7] (fun v i wr => ∃ q : Nat, q ≤ n ∧ i = .int .i64 q ∧ wr.ownsRow w.heap.size TOp 1 v (rst (L.take q) hd).length (opv B (rst (L.take q) hd)) ∧ Below w.heap.size w wr) (fun _ i _ => n - (intOf i).toNat)
  case atStart => exact ⟨0, by omega, rfl, World.ownsRow_nil _ _ _ _, Below.refl _ _⟩
  case round =>
    obtain ⟨q, hq1, rfl, hrow, hB⟩ := hrel
    have c2r : wr.cell? ⟨p, 2, none⟩ = some (.slice a n k) := by rw [hB.cell (p := ⟨p, 2, none⟩) hplt]; exact c2
    have HRW := hid hrow
    have HBB := hid hB
    by_cases hql : q < n
    · have hqL : q < L.length := by rw [← HN.out]; exact hql
      have hr : L[q]? = some L[q] := List.getElem?_eq_getElem hqL
      generalize L[q] = o at hr
      have hw := HH.out.fr (F' := F) (fp := fun _ => False) (Fr.of_below hB) (fun e => e) (fun _ _ e => e) (fun _ _ e => e) (fun _ _ _ _ _ e => e) (fun _ _ => rfl)
      obtain ⟨g, rfl, cg⟩ := hw.at hr HV.out
      obtain ⟨sv, iv, hb⟩ := hw.ob o (List.mem_of_getElem? hr)
      have co := hb.c0
      have htk := rst_snoc L hd hr
      have hal : (rst (L.take q) hd).length ≤ 100000 := by
        have := List.length_filter_le (fun x : Ob => !(x.h == hd)) (L.take q)
        have := List.length_take_le q L
        unfold rst
        omega
      obtain ⟨b, hbb⟩ : ∃ b, b = B o.h := ⟨_, rfl⟩
      rw [← hbb] at cg co
      have HBO := hid hbb.symm
      obtain ⟨u, hu⟩ : ∃ u, u = o.h := ⟨_, rfl⟩
      rw [← hu] at co
      have HU := hid hu
      have HT := hid htk
      clear hr hb hqL hw hbb hu htk hrow hB
      by_cases he : u = hd
      · have hbq : (u != hd) = false := by simpa using he
        have HE := hid he
        clear he
        go_wp2
        go_roundw
        case rel => exact ⟨q + 1, by omega, by go_num, by rw [HT.out, if_pos (by rw [← HU.out]; exact HE.out), List.append_nil]; exact HRW.out, HBB.out⟩
        case measure => simp [intOf]; omega
      · have hbq : (u != hd) = true := by simpa using he
        have HE := hid he
        clear he
        obtain ⟨n3, hn3⟩ : ∃ n3, n3 = (rst (L.take q) hd).length := ⟨_, rfl⟩
        have HR3 := HRW.out
        rw [← hn3] at HR3 hal
        have HR4 := hid HR3
        have HN3 := hid hn3
        obtain ⟨a3, k3, hv3⟩ : ∃ a k, u6 = .slice a n3 k := by
          rcases HR3.2 with ⟨e1, e2⟩ | ⟨g, cap, _, e1, _⟩
          · exact ⟨none, 0, by rw [e1, e2]⟩
          · exact ⟨_, cap, e1⟩
        subst hv3
        clear HR3 hn3
        go_wp2_with (at_builtin; refine wpList_append_lies _ (o := ⟨some 41, _, _, _, _, _⟩) rfl (.tmp 32) (.tmp 40) 51 rfl w.heap.size TOp i0 (.pointer none) 1 8 Try.underlying51 hi'.out hz0'.out hz1'.out hz2'.out rfl (by decide) (.slice a3 n3 k3) n3 _ rfl (HR4.out.alloc _) ⟨wr.heap.size, 0, none⟩ 1 1 [.pointer (some ⟨b, 0, none⟩)] rfl rfl (one_news _ _ _ _ rfl) (by simp [Value.oneCell']) (by decide) (by unfold maxLen; omega) (by omega) (by have := HBB.out.size; simp; omega) (wr.heap.size + 1) (by simp) ?_; intro g5 k5 w5 hown5 hgrow5 hat5 hlt5; have HO5 := hid hown5; have HG5 := hid hgrow5; clear hown5 hgrow5 hat5)
        have hsz := HBB.out.size
        go_roundw
        case rel =>
          refine ⟨q + 1, by omega, by go_num, ?_, (HBB.out.alloc hsz _).grown HG5.out (by simp; omega) (fun j hj => (HR4.out.lt j hj).1)⟩
          rw [HT.out, if_neg (by rw [← HU.out]; exact HE.out)]
          have eo : opv B (rst (L.take q) hd ++ [o]) = opv B (rst (L.take q) hd) ++ [.pointer (some ⟨b, 0, none⟩)] := by
            rw [← HBO.out]; simp [opv]
          rw [eo, List.length_append, List.length_singleton, ← HN3.out]
          exact HO5.out
        case measure => simp [intOf]; omega
    · obtain rfl : q = n := by omega
      have ht : L.take q = L := List.take_of_length_le (by rw [HN.out]; exact Nat.le_refl _)
      rw [ht] at hrow
      have hz3 := HH.out.fz 2
      have hfz : wr.frozen? ⟨p, 2, none⟩ = false := by rw [World.frozen?_of_block (hB.block p hplt)]; exact hz3
      obtain ⟨a3, k3, hv3⟩ : ∃ a k, u6 = .slice a (rst L hd).length k := by
        rcases hrow.2 with ⟨e1, e2⟩ | ⟨g, cap, _, e1, _⟩
        · exact ⟨none, 0, by rw [e1, e2]⟩
        · exact ⟨_, cap, e1⟩
      have hnew := HH.out.row HZ.out (L' := rst L hd) (lv' := u6) (fun o ho => (List.mem_filter.1 ho).1) hB hrow
      have hfr : Fr (fun k => F k = (-1, 0) ∨ F k = (0, 0)) w (wr.setCell ⟨p, 2, none⟩ u6) := (Fr.of_below hB).setCell _ _ (fun _ => .inl HH.out.fp)
      have HNW := hid hnew
      have HFR := hid hfr
      subst hv3
      generalize (rst L hd).length = nr at *
      clear HRW HBB hrow hnew hfr hz3 ht
      go_wp2
      obtain ⟨w4, hw4⟩ : ∃ w4, w4 = wr.setCell ⟨p, 2, none⟩ (.slice a3 nr k3) := ⟨_, rfl⟩
      rw [← hw4] at HNW HFR ⊢
      clear c2r hfz
      have hs4 : wr.heap.size = w4.heap.size := by rw [hw4]; simp
      clear hw4
      have c1 := HNW.out.c1
      refine C.wp_region_mix [0, 0, 0, 1, 0, 0, 0, 1, 0, 2, 2] (fun W => W.cell? ⟨p, 1, none⟩ = some (.pointer (some ⟨pa, 0, none⟩))) (by kernel_rfl) (by kernel_rfl) c1 ?_
      obtain ⟨w5, hw5⟩ : ∃ w5, w5 = w4.drew := ⟨_, rfl⟩
      rw [← hw5]
      have R5 := hid (show RhW w5 p pa Sa A (nw F w.heap.size (-3, 0)) B top (rst L hd) (.slice a3 nr k3) by rw [hw5]; exact HNW.out.drewN 1)
      have F5 := hid (show Fr (fun k => F k = (-1, 0) ∨ F k = (0, 0)) w w5 by rw [hw5]; exact HFR.out.drew)
      clear hw5 c1 HNW HFR
      repeat (first
        | (refine' C.wpMix_value _ rfl rfl _ _; rotate_left; (solve | (intro W; go_simp) | (intro W; go_simp; with_reducible rfl)); simp only [Act.put, List.setIfInBounds_toArray, List.set_cons_zero, List.set_cons_succ])
        | (refine' C.wpMix_read _ rfl rfl _ _; rotate_left; (solve | (rintro W h1; go_simp) | (rintro W h1; go_simp; with_reducible rfl)); simp only [Act.put, List.setIfInBounds_toArray, List.set_cons_zero, List.set_cons_succ]))
      refine C.wpMix_call 77 #[.pointer (some ⟨pa, 0, none⟩), .int .u64 hd] (by decide) rfl (by go_simp) ?_
      refine (RAt_some R5.out.ar HFO.out).mono ?_
      rintro e w6 ⟨rfl, rfl⟩
      refine ⟨_, rfl, fun _ => R5.out.c1, ?_⟩
      simp only [Act.put, List.setIfInBounds_toArray, List.set_cons_zero, List.set_cons_succ]
      repeat (first
        | (refine' C.wpMix_value _ rfl rfl _ _; rotate_left; (solve | (intro W; go_simp) | (intro W; go_simp; with_reducible rfl)); simp only [Act.put, List.setIfInBounds_toArray, List.set_cons_zero, List.set_cons_succ])
        | (refine' C.wpMix_read _ rfl rfl _ _; rotate_left; (solve | (rintro W h1; go_simp) | (rintro W h1; go_simp; with_reducible rfl)); simp only [Act.put, List.setIfInBounds_toArray, List.set_cons_zero, List.set_cons_succ]))
      refine C.wpMix_call 76 #[.pointer (some ⟨pa, 0, none⟩), .int .i64 i] (by decide) rfl (by go_simp) ?_
      refine (RDrop_any R5.out.ar HFO.out.1 HFO.out.2.1).mono ?_
      rintro e w7 ⟨v7, rfl, ha7, hf7⟩
      have R7 := hid (R5.out.arena (fun o ho => HZ.out o (List.mem_filter.1 ho).1) ha7 hf7 (fun k hk => by
        rcases hk with e | e
        · exact .inl e
        · exact .inr e.1))
      have F7 := hid (F5.out.trans hf7 (fun k hk hlt => .inr (by rw [← nw_lt (l := (-3, 0)) (F := F) hlt]; exact R5.out.fa k hk)))
      have HS5 := hid F5.out.size
      clear ha7 hf7 R5 F5
      refine ⟨_, rfl, fun _ => R7.out.c1, ?_⟩
      simp only [Act.put, List.setIfInBounds_toArray, List.set_cons_zero, List.set_cons_succ]
      refine C.wpMix_end ?_
      go_wp2
      go_ret
      refine ⟨rfl, i, sp, HFO.out, _, _, _, R7.out, fun k hk => ?_, fun k hk => ?_, F7.out⟩
      · rw [nw_lt (by have := HS5.out; omega), nw_lt hk]
      · by_cases e : k < w5.heap.size
        · rw [nw_lt e, nw_ge hk]; exact .inl rfl
        · rw [nw_ge (by omega)]; exact .inr rfl
end
end Go.Proofs.Ytmampaglemleoaa

namespace Go.Proofs.Ytmampaglemleoaa
open Go Go.ChangeShapes Go.WideShapes Go.ChangeAt Go.RowKit

abbrev TLk : TypeId := 67
/-- The heap, who waits, the links that are let go, who went, what foreign was told. -/
structure GoE (W : World) (p pa : Nat) (Sa : Nat → Prop) (A : Ar) (F : Nat → Lab) (B : Int → Nat) (top : Int) (L : HL) (lv v1 v2 v8 v9 : Value) (wa : List Int) (P : List Lk) (g f : List Int) : Prop where
  h : RhW W p pa Sa A F B top L lv
  r1 : W.ownsRow 0 TU 1 v1 wa.length (wa.map u64v)
  l1 : ∀ k, v1.ownBlock = some k → F k = (-4, 0)
  r2 : W.ownsRow 0 TLk 2 v2 P.length (lkv P)
  l2 : ∀ k, v2.ownBlock = some k → F k = (-7, 0)
  r8 : W.ownsRow 0 TU 1 v8 g.length (g.map u64v)
  l8 : ∀ k, v8.ownBlock = some k → F k = (-5, 0)
  r9 : W.ownsRow 0 TU 1 v9 f.length (f.map u64v)
  l9 : ∀ k, v9.ownBlock = some k → F k = (-6, 0)
section
variable {w W W' : World} {p pa : Nat} {Sa : Nat → Prop} {A A0 : Ar} {F F' : Nat → Lab} {B : Int → Nat} {top : Int} {L L' : HL} {lv v1 v2 v8 v9 : Value} {wa g f d : List Int} {P : List Lk} {fp : Nat → Prop}
theorem row_on {T : TypeId} {k n : Nat} {v : Value} {xs : List Value} {l : Lab} (h : W.ownsRow 0 T k v n xs) (hl : ∀ b, v.ownBlock = some b → F b = l) (hf : Fr fp W W') (hfp : ∀ b, fp b → F b ≠ l) (hF : ∀ b, b < W.heap.size → F' b = F b) :
    W'.ownsRow 0 T k v n xs ∧ ∀ b, v.ownBlock = some b → F' b = l :=
  ⟨hf.owns h (fun b hb e => hfp b e (hl b hb)), fun b hb => by rw [hF b (h.lt b hb).2]; exact hl b hb⟩
/-- The heap has turned. -/
theorem GoE.heap (h : GoE W p pa Sa A F B top L lv v1 v2 v8 v9 wa P g f) {Sa' : Nat → Prop} {A' : Ar} {lv' : Value} (hh : RhW W' p pa Sa' A' F' B top L' lv') (hf : Fr fp W W') (hfp : ∀ b, fp b → F b = (-1, 0) ∨ F b = (0, 0) ∨ 1 ≤ (F b).1) (hF : ∀ b, b < W.heap.size → F' b = F b) :
    GoE W' p pa Sa' A' F' B top L' lv' v1 v2 v8 v9 wa P g f := by
  have ne : ∀ l : Int, l ≤ -4 → ∀ b, fp b → F b ≠ (l, 0) := fun l hl b hb e => by
    rcases hfp b hb with q | q | q
    · rw [q] at e; have := congrArg Prod.fst e; simp only at this; omega
    · rw [q] at e; have := congrArg Prod.fst e; simp only at this; omega
    · rw [e] at q; simp only at q; omega
  obtain ⟨a1, b1⟩ := row_on h.r1 h.l1 hf (ne (-4) (by omega)) hF
  obtain ⟨a2, b2⟩ := row_on h.r2 h.l2 hf (ne (-7) (by omega)) hF
  obtain ⟨a8, b8⟩ := row_on h.r8 h.l8 hf (ne (-5) (by omega)) hF
  obtain ⟨a9, b9⟩ := row_on h.r9 h.l9 hf (ne (-6) (by omega)) hF
  exact ⟨hh, a1, b1, a2, b2, a8, b8, a9, b9⟩
theorem GoE.rest (h : RhW W p pa Sa A F B top L lv) (hz : ∀ o ∈ L, 1 ≤ o.h) (l : Int) (hl : l ≤ -4) (hf : Fr fp W W') (hfp : ∀ b, fp b → F b = (l, 0)) : RhW W' p pa Sa A (nw F W.heap.size (l, 0)) B top L lv := by
  have ne : ∀ k m j, F k = (m, j) → m ≠ l → ¬ fp k := fun k m j e hm hk => by
    rw [hfp k hk] at e
    exact hm (congrArg Prod.fst e).symm
  exact h.fr hf (ne _ _ _ h.fp (by omega)) (fun k e => ne _ _ _ e (by omega)) (fun k e => ne _ _ _ e (by omega)) (fun o ho k j e => ne _ _ _ e (by have := hz o ho; omega)) (fun k hk => nw_lt hk)
theorem lab_new {v v' : Value} {l : Lab} {n : Nat} (hl : ∀ b, v.ownBlock = some b → F b = l) (hlt : ∀ b, v.ownBlock = some b → b < n) (ho : ∀ b, v'.ownBlock = some b → v.ownBlock = some b ∨ n ≤ b) : ∀ b, v'.ownBlock = some b → nw F n l b = l := fun b hb => by
  rcases ho b hb with e | e
  · rw [nw_lt (hlt b e)]; exact hl b e
  · exact nw_ge e
theorem GoE.push1 (h : GoE W p pa Sa A F B top L lv v1 v2 v8 v9 wa P g f) (hz : ∀ o ∈ L, 1 ≤ o.h) {v' : Value} {xs : List Int} (hf : Fr (fun k => v1.ownBlock = some k) W W') (hr : W'.ownsRow 0 TU 1 v' xs.length (xs.map u64v)) (ho : ∀ k, v'.ownBlock = some k → v1.ownBlock = some k ∨ W.heap.size ≤ k) :
    GoE W' p pa Sa A (nw F W.heap.size (-4, 0)) B top L lv v' v2 v8 v9 xs P g f := by
  have hF : ∀ b, b < W.heap.size → nw F W.heap.size (-4, 0) b = F b := fun b hb => nw_lt hb
  have ne : ∀ l : Int, l ≠ -4 → ∀ b, v1.ownBlock = some b → F b ≠ (l, 0) := fun l hl b hb e => by
    rw [h.l1 b hb] at e; exact hl (congrArg Prod.fst e).symm
  obtain ⟨a2, b2⟩ := row_on h.r2 h.l2 hf (ne (-7) (by omega)) hF
  obtain ⟨a8, b8⟩ := row_on h.r8 h.l8 hf (ne (-5) (by omega)) hF
  obtain ⟨a9, b9⟩ := row_on h.r9 h.l9 hf (ne (-6) (by omega)) hF
  exact ⟨GoE.rest h.h hz (-4) (by omega) hf h.l1, hr, lab_new h.l1 (fun b hb => (h.r1.lt b hb).2) ho, a2, b2, a8, b8, a9, b9⟩
theorem GoE.push2 (h : GoE W p pa Sa A F B top L lv v1 v2 v8 v9 wa P g f) (hz : ∀ o ∈ L, 1 ≤ o.h) {v' : Value} {P' : List Lk} (hf : Fr (fun k => v2.ownBlock = some k) W W') (hr : W'.ownsRow 0 TLk 2 v' P'.length (lkv P')) (ho : ∀ k, v'.ownBlock = some k → v2.ownBlock = some k ∨ W.heap.size ≤ k) :
    GoE W' p pa Sa A (nw F W.heap.size (-7, 0)) B top L lv v1 v' v8 v9 wa P' g f := by
  have hF : ∀ b, b < W.heap.size → nw F W.heap.size (-7, 0) b = F b := fun b hb => nw_lt hb
  have ne : ∀ l : Int, l ≠ -7 → ∀ b, v2.ownBlock = some b → F b ≠ (l, 0) := fun l hl b hb e => by
    rw [h.l2 b hb] at e; exact hl (congrArg Prod.fst e).symm
  obtain ⟨a1, b1⟩ := row_on h.r1 h.l1 hf (ne (-4) (by omega)) hF
  obtain ⟨a8, b8⟩ := row_on h.r8 h.l8 hf (ne (-5) (by omega)) hF
  obtain ⟨a9, b9⟩ := row_on h.r9 h.l9 hf (ne (-6) (by omega)) hF
  exact ⟨GoE.rest h.h hz (-7) (by omega) hf h.l2, a1, b1, hr, lab_new h.l2 (fun b hb => (h.r2.lt b hb).2) ho, a8, b8, a9, b9⟩
theorem GoE.push8 (h : GoE W p pa Sa A F B top L lv v1 v2 v8 v9 wa P g f) (hz : ∀ o ∈ L, 1 ≤ o.h) {v' : Value} {xs : List Int} (hf : Fr (fun k => v8.ownBlock = some k) W W') (hr : W'.ownsRow 0 TU 1 v' xs.length (xs.map u64v)) (ho : ∀ k, v'.ownBlock = some k → v8.ownBlock = some k ∨ W.heap.size ≤ k) :
    GoE W' p pa Sa A (nw F W.heap.size (-5, 0)) B top L lv v1 v2 v' v9 wa P xs f := by
  have hF : ∀ b, b < W.heap.size → nw F W.heap.size (-5, 0) b = F b := fun b hb => nw_lt hb
  have ne : ∀ l : Int, l ≠ -5 → ∀ b, v8.ownBlock = some b → F b ≠ (l, 0) := fun l hl b hb e => by
    rw [h.l8 b hb] at e; exact hl (congrArg Prod.fst e).symm
  obtain ⟨a1, b1⟩ := row_on h.r1 h.l1 hf (ne (-4) (by omega)) hF
  obtain ⟨a2, b2⟩ := row_on h.r2 h.l2 hf (ne (-7) (by omega)) hF
  obtain ⟨a9, b9⟩ := row_on h.r9 h.l9 hf (ne (-6) (by omega)) hF
  exact ⟨GoE.rest h.h hz (-5) (by omega) hf h.l8, a1, b1, a2, b2, hr, lab_new h.l8 (fun b hb => (h.r8.lt b hb).2) ho, a9, b9⟩
theorem GoE.push9 (h : GoE W p pa Sa A F B top L lv v1 v2 v8 v9 wa P g f) (hz : ∀ o ∈ L, 1 ≤ o.h) {v' : Value} {xs : List Int} (hf : Fr (fun k => v9.ownBlock = some k) W W') (hr : W'.ownsRow 0 TU 1 v' xs.length (xs.map u64v)) (ho : ∀ k, v'.ownBlock = some k → v9.ownBlock = some k ∨ W.heap.size ≤ k) :
    GoE W' p pa Sa A (nw F W.heap.size (-6, 0)) B top L lv v1 v2 v8 v' wa P g xs := by
  have hF : ∀ b, b < W.heap.size → nw F W.heap.size (-6, 0) b = F b := fun b hb => nw_lt hb
  have ne : ∀ l : Int, l ≠ -6 → ∀ b, v9.ownBlock = some b → F b ≠ (l, 0) := fun l hl b hb e => by
    rw [h.l9 b hb] at e; exact hl (congrArg Prod.fst e).symm
  obtain ⟨a1, b1⟩ := row_on h.r1 h.l1 hf (ne (-4) (by omega)) hF
  obtain ⟨a2, b2⟩ := row_on h.r2 h.l2 hf (ne (-7) (by omega)) hF
  obtain ⟨a8, b8⟩ := row_on h.r8 h.l8 hf (ne (-5) (by omega)) hF
  exact ⟨GoE.rest h.h hz (-6) (by omega) hf h.l9, a1, b1, a2, b2, a8, b8, hr, lab_new h.l9 (fun b hb => (h.r9.lt b hb).2) ho⟩
/-- One call of Go, begun at w. -/
def GoS (w : World) (p pa : Nat) (A0 : Ar) (F : Nat → Lab) (B : Int → Nat) (top : Int) (L : HL) (v1 v2 v8 v9 : Value) (wa : List Int) (P : List Lk) (g f d : List Int) (W : World) : Prop :=
  (∃ Sa A F1 lv, GoE W p pa Sa A F1 B top L lv v1 v2 v8 v9 wa P g f ∧ DrR A0 d A ∧ (∀ o ∈ L, ∃ i sp, Found A o.h i sp) ∧ (∀ k, k < w.heap.size → F1 k = F k)) ∧ FrF F w W
end
end Go.Proofs.Ytmampaglemleoaa

namespace Go.Proofs.Ytmampaglemleoaa
open Go Go.ChangeShapes Go.WideShapes Go.ChangeAt Go.RowKit

def drp (L : HL) (l : List Int) : HL := L.filter fun y => !(l.contains y.h)
theorem drp_nil (L : HL) : drp L [] = L := List.filter_eq_self.2 (by simp)
theorem rst_drp (L : HL) (l : List Int) (y : Int) : rst (drp L l) y = drp L (l ++ [y]) := by
  unfold rst drp
  rw [List.filter_filter]
  refine List.filter_congr fun z _ => ?_
  rw [List.contains_append, List.contains_cons]
  cases l.contains z.h <;> cases (z.h == y) <;> rfl
theorem drp_nd {L : HL} (hn : Nd L) (l : List Int) : Nd (drp L l) := hn.sublist (List.filter_sublist.map _)
theorem mem_drp {L : HL} {l : List Int} {o : Ob} : o ∈ drp L l ↔ o ∈ L ∧ o.h ∉ l := by
  unfold drp
  rw [List.mem_filter]
  simp
theorem fnd_drp {L : HL} (hn : Nd L) {l : List Int} {y : Int} {o : Ob} (h : fnd L y = some o) (hy : y ∉ l) : fnd (drp L l) y = some o := by
  obtain ⟨h1, rfl⟩ := fnd_some h
  exact fnd_mem (drp_nd hn l) (mem_drp.2 ⟨h1, hy⟩)
theorem found_drop {A : Ar} (_hA : Ok A) {x y : Int} {i j : Nat} {s t : Spot} (hx : Found A x i s) (hy : Found A y j t) (hne : x ≠ y) : Found (dropAt A j t) x i s := by
  refine ⟨(drop_at hy.1 i s hx.2.1).2 ⟨hx.1, fun e => ?_⟩, hx.2.1, hx.2.2⟩
  subst e
  have h1 := hx.1
  rw [hy.1] at h1
  cases h1
  exact hne (hx.2.2.trans hy.2.2.symm)
/-- Objects that are no more lie as they lay. -/
def KeO (W : World) (F : Nat → Lab) (W' : World) (F' : Nat → Lab) : Prop := ∀ (b : Nat) (sv iv : Value) (o : Ob), 1 ≤ o.h → RoC W F b sv iv o → RoC W' F' b sv iv o
theorem KeO.trans {W W1 W2 : World} {F F1 F2 : Nat → Lab} (h : KeO W F W1 F1) (k : KeO W1 F1 W2 F2) : KeO W F W2 F2 := fun b sv iv o h1 h2 => k b sv iv o h1 (h b sv iv o h1 h2)
/-- One call of Go, begun at w. -/
structure GoT (w : World) (p pa : Nat) (A0 : Ar) (F F1 : Nat → Lab) (B : Int → Nat) (top : Int) (L : HL) (v1 v2 v8 v9 : Value) (wa : List Int) (P : List Lk) (g f d : List Int) (W : World) : Prop where
  ex : ∃ Sa A lv, GoE W p pa Sa A F1 B top L lv v1 v2 v8 v9 wa P g f ∧ DrR A0 d A ∧ (∀ o ∈ L, ∃ i sp, Found A o.h i sp)
  ag : ∀ k, k < w.heap.size → F1 k = F k
  fr : FrF F w W
section
variable {w W W' : World} {p pa : Nat} {A0 : Ar} {F F1 : Nat → Lab} {B : Int → Nat} {top : Int} {L : HL} {v1 v2 v8 v9 : Value} {wa g f d : List Int} {P : List Lk}
theorem GoT.goS (h : GoT w p pa A0 F F1 B top L v1 v2 v8 v9 wa P g f d W) : GoS w p pa A0 F B top L v1 v2 v8 v9 wa P g f d W := by
  obtain ⟨Sa, A, lv, h1, h2, h3⟩ := h.ex
  exact ⟨⟨Sa, A, F1, lv, h1, h2, h3, h.ag⟩, h.fr⟩
theorem GoS.goT (h : GoS w p pa A0 F B top L v1 v2 v8 v9 wa P g f d W) : ∃ F1, GoT w p pa A0 F F1 B top L v1 v2 v8 v9 wa P g f d W := by
  obtain ⟨⟨Sa, A, F1, lv, h1, h2, h3, h4⟩, h5⟩ := h
  exact ⟨F1, ⟨Sa, A, lv, h1, h2, h3⟩, h4, h5⟩
/-- The frame grows. -/
theorem GoT.fro (h : GoT w p pa A0 F F1 B top L v1 v2 v8 v9 wa P g f d W) {fp : Nat → Prop} (hf : Fr fp W W') (hfp : ∀ b, fp b → F1 b ≠ outL) : FrF F w W' :=
  FrF.trans h.fr (F1 := F1) (hf.mono (fun b hb _ => hfp b hb)) h.ag
theorem ke_of {F' : Nat → Lab} {fp : Nat → Prop} (hf : Fr fp W W') (hfp : ∀ b, fp b → (F1 b).1 ≤ 0) (hF : ∀ b, b < W.heap.size → F' b = F1 b) : KeO W F1 W' F' := fun b sv iv o h1 h2 =>
  h2.fr hf (fun k j e e2 => by have := hfp k e2; rw [e] at this; simp only at this; omega) hF
theorem GoT.away (h : GoT w p pa A0 F F1 B top L v1 v2 v8 v9 wa P g f d W) (hl : L.length ≤ 100000) (hz : ∀ o ∈ L, 1 ≤ o.h) {y : Int} {o : Ob} (hy : fnd L y = some o) :
    Calls Try.prog 70 #[.pointer (some ⟨p, 0, none⟩), .int .u64 y] W fun e W' => e = .returned (.pointer (some ⟨B y, 0, none⟩)) ∧ ∃ F2 sv iv, GoT w p pa A0 F F2 B top (rst L y) v1 v2 v8 v9 wa P g f (d ++ [y]) W' ∧ KeO W F1 W' F2 ∧ RoC W' F2 (B y) sv iv o := by
  obtain ⟨Sa, A, lv, h1, h2, h3⟩ := h.ex
  obtain ⟨hm, rfl⟩ := fnd_some hy
  obtain ⟨i, sp, hf⟩ := h3 o hm
  obtain ⟨sv, iv, hb⟩ := h1.h.ob o hm
  have hok : Ok A := by obtain ⟨_, _, _, _, q, _⟩ := h1.h.ar; exact q
  refine (RAway_any h1.h hl hz hy hf).mono ?_
  rintro e W' ⟨rfl, i2, sp2, hf2, Sa', F', lv', k1, k2, k3, k4⟩
  obtain ⟨rfl, rfl⟩ := Found.same hok hf hf2
  have hke : KeO W F1 W' F' := ke_of k4 (fun b hb => by rcases hb with e | e <;> rw [e] <;> simp) k2
  refine ⟨rfl, F', sv, iv, ⟨⟨Sa', _, lv', h1.heap k1 k4 (fun b hb => by rcases hb with e | e; exact .inl e; exact .inr (.inl e)) k2, drr_more h2 (.cons hf (.nil _)), fun z hz2 => ?_⟩, fun k hk => ?_, h.fro k4 (fun b hb => by rcases hb with e | e <;> rw [e] <;> simp [outL])⟩, hke, hke _ _ _ _ (hz o hm) hb⟩
  · have hz3 := List.mem_filter.1 hz2
    obtain ⟨j, r, hr⟩ := h3 z hz3.1
    exact ⟨j, r, found_drop hok hr hf (by simpa using hz3.2)⟩
  · rw [k2 k (Nat.lt_of_lt_of_le hk h.fr.size)]; exact h.ag k hk
theorem GoT.push8 (h : GoT w p pa A0 F F1 B top L v1 v2 v8 v9 wa P g f d W) (hz : ∀ o ∈ L, 1 ≤ o.h) {v' : Value} {xs : List Int} (hf : Fr (fun k => v8.ownBlock = some k) W W') (hr : W'.ownsRow 0 TU 1 v' xs.length (xs.map u64v)) (ho : ∀ k, v'.ownBlock = some k → v8.ownBlock = some k ∨ W.heap.size ≤ k) :
    ∃ F2, GoT w p pa A0 F F2 B top L v1 v2 v' v9 wa P xs f d W' ∧ KeO W F1 W' F2 := by
  obtain ⟨Sa, A, lv, h1, h2, h3⟩ := h.ex
  exact ⟨_, ⟨⟨Sa, A, lv, h1.push8 hz hf hr ho, h2, h3⟩, fun k hk => by rw [nw_lt (Nat.lt_of_lt_of_le hk h.fr.size)]; exact h.ag k hk, h.fro hf (fun b hb => by rw [h1.l8 b hb]; simp [outL])⟩, ke_of hf (fun b hb => by rw [h1.l8 b hb]; simp) (fun b hb => nw_lt hb)⟩
theorem GoT.push9 (h : GoT w p pa A0 F F1 B top L v1 v2 v8 v9 wa P g f d W) (hz : ∀ o ∈ L, 1 ≤ o.h) {v' : Value} {xs : List Int} (hf : Fr (fun k => v9.ownBlock = some k) W W') (hr : W'.ownsRow 0 TU 1 v' xs.length (xs.map u64v)) (ho : ∀ k, v'.ownBlock = some k → v9.ownBlock = some k ∨ W.heap.size ≤ k) :
    ∃ F2, GoT w p pa A0 F F2 B top L v1 v2 v8 v' wa P g xs d W' ∧ KeO W F1 W' F2 := by
  obtain ⟨Sa, A, lv, h1, h2, h3⟩ := h.ex
  exact ⟨_, ⟨⟨Sa, A, lv, h1.push9 hz hf hr ho, h2, h3⟩, fun k hk => by rw [nw_lt (Nat.lt_of_lt_of_le hk h.fr.size)]; exact h.ag k hk, h.fro hf (fun b hb => by rw [h1.l9 b hb]; simp [outL])⟩, ke_of hf (fun b hb => by rw [h1.l9 b hb]; simp) (fun b hb => nw_lt hb)⟩
theorem GoT.push1 (h : GoT w p pa A0 F F1 B top L v1 v2 v8 v9 wa P g f d W) (hz : ∀ o ∈ L, 1 ≤ o.h) {v' : Value} {xs : List Int} (hf : Fr (fun k => v1.ownBlock = some k) W W') (hr : W'.ownsRow 0 TU 1 v' xs.length (xs.map u64v)) (ho : ∀ k, v'.ownBlock = some k → v1.ownBlock = some k ∨ W.heap.size ≤ k) :
    ∃ F2, GoT w p pa A0 F F2 B top L v' v2 v8 v9 xs P g f d W' ∧ KeO W F1 W' F2 := by
  obtain ⟨Sa, A, lv, h1, h2, h3⟩ := h.ex
  exact ⟨_, ⟨⟨Sa, A, lv, h1.push1 hz hf hr ho, h2, h3⟩, fun k hk => by rw [nw_lt (Nat.lt_of_lt_of_le hk h.fr.size)]; exact h.ag k hk, h.fro hf (fun b hb => by rw [h1.l1 b hb]; simp [outL])⟩, ke_of hf (fun b hb => by rw [h1.l1 b hb]; simp) (fun b hb => nw_lt hb)⟩
theorem GoT.push2 (h : GoT w p pa A0 F F1 B top L v1 v2 v8 v9 wa P g f d W) (hz : ∀ o ∈ L, 1 ≤ o.h) {v' : Value} {P' : List Lk} (hf : Fr (fun k => v2.ownBlock = some k) W W') (hr : W'.ownsRow 0 TLk 2 v' P'.length (lkv P')) (ho : ∀ k, v'.ownBlock = some k → v2.ownBlock = some k ∨ W.heap.size ≤ k) :
    ∃ F2, GoT w p pa A0 F F2 B top L v1 v' v8 v9 wa P' g f d W' ∧ KeO W F1 W' F2 := by
  obtain ⟨Sa, A, lv, h1, h2, h3⟩ := h.ex
  exact ⟨_, ⟨⟨Sa, A, lv, h1.push2 hz hf hr ho, h2, h3⟩, fun k hk => by rw [nw_lt (Nat.lt_of_lt_of_le hk h.fr.size)]; exact h.ag k hk, h.fro hf (fun b hb => by rw [h1.l2 b hb]; simp [outL])⟩, ke_of hf (fun b hb => by rw [h1.l2 b hb]; simp) (fun b hb => nw_lt hb)⟩
/-- The links are begun anew. -/
theorem GoT.nil2 (h : GoT w p pa A0 F F1 B top L v1 v2 v8 v9 wa P g f d W) : GoT w p pa A0 F F1 B top L v1 (.slice none 0 0) v8 v9 wa [] g f d W := by
  obtain ⟨Sa, A, lv, h1, h2, h3⟩ := h.ex
  exact ⟨⟨Sa, A, lv, ⟨h1.h, h1.r1, h1.l1, World.ownsRow_nil _ _ _ _, fun k hk => by simp [Value.ownBlock] at hk, h1.r8, h1.l8, h1.r9, h1.l9⟩, h2, h3⟩, h.ag, h.fr⟩
/-- A count is another one. -/
theorem GoT.setc (h : GoT w p pa A0 F F1 B top L v1 v2 v8 v9 wa P g f d W) (hn : Nd L) {o : Ob} (ho : o ∈ L) (hz : 1 ≤ o.h) (c : Int) : GoT w p pa A0 F F1 B top (setc L o.h c) v1 v2 v8 v9 wa P g f d (W.setCell ⟨B o.h, 2, none⟩ (.int .u32 c)) := by
  obtain ⟨Sa, A, lv, h1, h2, h3⟩ := h.ex
  obtain ⟨sv, iv, hb⟩ := h1.h.ob o ho
  have hfr : Fr (fun k => k = B o.h) W (W.setCell ⟨B o.h, 2, none⟩ (.int .u32 c)) := (Fr.refl _ _).setCell _ _ (fun _ => rfl)
  refine ⟨⟨Sa, A, lv, h1.heap (h1.h.setc hn ho hz c) hfr (fun b e => .inr (.inr (by rw [e, hb.fb]; exact hz))) (fun _ _ => rfl), h2, fun z hz2 => ?_⟩, h.ag, h.fro hfr (fun b e => by
    rw [e, hb.fb]
    intro e2
    have := congrArg Prod.fst e2
    simp only [outL] at this
    omega)⟩
  obtain ⟨q, hq, e, _⟩ := setc_mem hz2
  rw [e]
  exact h3 q hq
theorem GoT.rows (h : GoT w p pa A0 F F1 B top L v1 v2 v8 v9 wa P g f d W) : W.ownsRow 0 TU 1 v1 wa.length (wa.map u64v) ∧ W.ownsRow 0 TLk 2 v2 P.length (lkv P) ∧ W.ownsRow 0 TU 1 v8 g.length (g.map u64v) ∧ W.ownsRow 0 TU 1 v9 f.length (f.map u64v) := by
  obtain ⟨Sa, A, lv, h1, h2, h3⟩ := h.ex
  exact ⟨h1.r1, h1.r2, h1.r8, h1.r9⟩
end
end Go.Proofs.Ytmampaglemleoaa
