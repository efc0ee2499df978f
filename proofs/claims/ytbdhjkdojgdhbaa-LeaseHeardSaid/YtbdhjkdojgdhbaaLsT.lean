/-
  The plain twin's Tick.
-/
import Derived.Test.YtbdhjkdojgdhbaaLsJ
namespace Go.Proofs.Ytbdhjkdojgdhbaa
open Go Go.ChangeShapes Go.WideShapes Go.ChangeAt Go.RowKit

set_option maxRecDepth 100000 in
theorem infoU : (Try.prog.info? TU).map (fun i => (i.zero, i.size, i.bytes)) = some (some (.int .u64 0), 1, 8) := by kernel_rfl
/-- append of one key. -/
theorem wpList_pushU {w : World} {ops : Array Oper} {rest : List Oper} {o : Oper} {a : Act} {Q : Exit → Act → World → Prop} (hg : o.guard = none) (s x : Operand)
    (ho : o.op = Op.call { callee := Callee.builtin Builtin.append, args := #[s, x], argTypes := #[50, 50] }) (B : Nat) (v : Value) (n : Nat) (xs : List Int) (y : Int) (hs : a.eval s = v) (hown : w.ownsRow B TU 1 v n (xs.map u64v)) (g c : Nat) (hx : a.eval x = .slice (some ⟨g, 0, none⟩) 1 c)
    (hc : w.cell? ⟨g, 0, none⟩ = some (u64v y)) (hl : n ≤ 1000000) (hB : B ≤ w.heap.size)
    (hK : ∀ v' w', w'.ownsRow B TU 1 v' (n + 1) ((xs ++ [y]).map u64v) → w.grownBy w' v.ownBlock → wpList Try.prog ops Q rest (a.put o.dst v') w') : wpList Try.prog ops Q (o :: rest) a w := by
  obtain ⟨i, h1, h2, h3, h4⟩ := info_split infoU
  have hml : (9223372036854775807 : Nat) = maxLen := rfl
  refine wpList_append_own_at _ hg s x 50 ho B TU i (.int .u64 0) 1 8 Try.underlying50 h1 h2 h3 h4 rfl (by decide) v _ _ hs hown ⟨g, 0, none⟩ 1 c [u64v y] hx rfl (fun j u hu => ?_) (by simp [Value.oneCell']) (by omega) (by omega) hB ?_
  · cases j with
    | zero => simp at hu; subst hu; simpa [Addr.add] using hc
    | succ j => simp at hu
  · intro v' w' k1 k2 _ _
    refine hK v' w' ?_ k2
    rw [List.map_append]
    exact k1
/-- Two rows of unlike elements lie in unlike blocks. -/
theorem row_neT {w : World} {B B2 n k n2 k2 : Nat} {T T2 : TypeId} {v v2 : Value} {xs ys : List Value} (h : w.ownsRow B T k v n xs) (h2 : w.ownsRow B2 T2 k2 v2 n2 ys) (hT : T2 ≠ T) {g : Nat} (hg : v.ownBlock = some g) : v2.ownBlock ≠ some g := fun e => by
  rcases h.2 with ⟨rfl, _⟩ | ⟨g', cap, cur, rfl, _, hgb, _⟩
  · cases hg
  · cases hg
    rcases h2.2 with ⟨rfl, _⟩ | ⟨g2, cap2, cur2, rfl, _, hgb2, _⟩
    · cases e
    · cases e
      rw [hgb] at hgb2
      simp only [Option.some.injEq, Obj.cells.injEq] at hgb2
      exact hT hgb2.2.1.symm
/-- Between two rounds. -/
structure TkI (w wr : World) (vo vr : Value) (no nr : Nat) (lo : List Int) (lr : List On) : Prop where
  r1 : wr.ownsRow w.heap.size TU 1 vo no (lo.map u64v)
  r2 : wr.ownsRow w.heap.size TOn 2 vr nr (onv lr)
  fr : Fr (fun _ => False) w wr
section
variable {w wr w2 : World} {vo vr v2 : Value} {no nr m : Nat} {lo : List Int} {lr : List On}
theorem TkI.kept (h : TkI w wr vo vr no nr lo lr) (hf : Fr (fun _ => False) wr w2) : TkI w w2 vo vr no nr lo lr := ⟨hf.owns h.r1 (fun _ _ e => e), hf.owns h.r2 (fun _ _ e => e), h.fr.trans hf (fun _ e _ => e)⟩
theorem TkI.out (h : TkI w wr vo vr no nr lo lr) {y : Int} {o : Obj} (k1 : w2.ownsRow w.heap.size TU 1 v2 m ((lo ++ [y]).map u64v)) (k2 : (wr.alloc o).grownBy w2 vo.ownBlock) : TkI w w2 v2 vr m nr (lo ++ [y]) lr := by
  have hf : Fr (fun k => vo.ownBlock = some k) wr w2 := ((Fr.refl _ wr).alloc o).grown k2 (fun k hk _ => hk)
  exact ⟨k1, hf.owns h.r2 (fun k hk e => row_neT h.r1 h.r2 (by decide) e hk), (h.fr.alloc o).grown k2 (fun k hk hl => by have := (h.r1.lt k hk).1; omega)⟩
theorem TkI.rest (h : TkI w wr vo vr no nr lo lr) {x : On} {o : Obj} (k1 : w2.ownsRow w.heap.size TOn 2 v2 m (onv (lr ++ [x]))) (k2 : (wr.alloc o).grownBy w2 vr.ownBlock) : TkI w w2 vo v2 no m lo (lr ++ [x]) := by
  have hf : Fr (fun k => vr.ownBlock = some k) wr w2 := ((Fr.refl _ wr).alloc o).grown k2 (fun k hk _ => hk)
  exact ⟨hf.owns h.r1 (fun k hk e => row_neT h.r2 h.r1 (by decide) e hk), k1, (h.fr.alloc o).grown k2 (fun k hk hl => by have := (h.r2.lt k hk).1; omega)⟩
end
theorem over_succ {z : Lz} {q : Nat} {x : On} (hx : z.l[q]? = some x) : (((z.l.take (q + 1)).filter (dueB z)).map (·.1)) = ((z.l.take q).filter (dueB z)).map (·.1) ++ (if dueB z x then [x.1] else []) := by
  rw [List.take_add_one, hx, List.filter_append, List.map_append]
  congr 1
  by_cases h : dueB z x = true
  · simp [h]
  · simp [h]
theorem rest_succ {z : Lz} {q : Nat} {x : On} (hx : z.l[q]? = some x) : (z.l.take (q + 1)).filter (fun x => !dueB z x) = (z.l.take q).filter (fun x => !dueB z x) ++ (if dueB z x then [] else [x]) := by
  rw [List.take_add_one, hx, List.filter_append]
  congr 1
  by_cases h : dueB z x = true
  · simp [h]
  · simp [h]
section
variable {w w' : World} {S fp : Nat → Prop} {p : Nat} {z : Lz} {lv : Value}
set_option maxRecDepth 100000 in
set_option maxHeartbeats 8000000 in
theorem RTick_any (h : RlW w S p z lv) (hl : z.l.length ≤ 100000) (hw : 0 ≤ z.now ∧ z.now ≤ 1000000000) (hat : ∀ x ∈ z.l, 0 ≤ x.2 ∧ x.2 ≤ z.now) : Calls Try.prog 25 #[.pointer (some ⟨p, 0, none⟩)] w fun e w' =>
    (∃ u m, e = .returned u ∧ w'.ownsRow w.heap.size TU 1 u m ((overK z).map u64v)) ∧ (∃ lv2, RlW w' (exS S w w') p z.tick lv2) ∧ Fr S w w' := by
  obtain ⟨now, hnow⟩ : ∃ now, now = z.now := ⟨_, rfl⟩
  have hwn := IntWalk.i64_in (now + 1) (by omega)
  have c1 := h.c1
  have z1 := h.fz 1
  rw [← hnow] at c1
  obtain ⟨w1, hw1⟩ : ∃ w1, w1 = w.setCell ⟨p, 1, none⟩ (iv (now + 1)) := ⟨_, rfl⟩
  have hf1 : Fr (fun b => b = p) w w1 := by rw [hw1]; exact (Fr.refl _ _).setCell _ _ (fun _ => rfl)
  have hW1 : RlW w1 S p ⟨z.time, now + 1, z.l⟩ lv := by
    refine ⟨?_, hf1.owns h.row (fun k hk e => h.nr hk e), h.sp, h.sr, fun k hk => Nat.lt_of_lt_of_le (h.sl k hk) hf1.size⟩
    rw [hw1, heap_setCell_same w p 1 _ _ _ h.hp]
    rfl
  have HF1 := hid (hf1.mono (fp2 := S) (fun k hk _ => by rw [hk]; exact h.sp))
  have HSL := hid h.sl
  obtain ⟨n, hn⟩ : ∃ n, n = z.l.length := ⟨_, rfl⟩
  obtain ⟨a, c, hlv⟩ := own_form h.row
  have HNOW := hid hnow
  have HH := hid hW1
  have HN := hid hn
  have HLV := hid hlv
  have HW1 := hid hw1
  have HAT := hid hat
  have H0 := hid (show TkI w1 w1 (.slice none 0 0) (.slice none 0 0) 0 0 (((z.l.take 0).filter (dueB z)).map (·.1)) ((z.l.take 0).filter (fun x => !dueB z x)) from ⟨World.ownsRow_nil _ _ _ _, World.ownsRow_nil _ _ _ _, Fr.refl _ _⟩)
  rw [← hn] at hl
  rw [← hnow] at hw
  clear h hnow hw1 hf1 hW1 hn hlv hat
  go_enter Try.func25, Try.ntmps25
  go_upto_region 2 with fail
  change Code.wp _ _ _ _ (w.setCell ⟨p, 1, none⟩ (iv (now + 1)))
  rw [← HW1.out]
  clear c1 z1 hwn
  go_wp2_with fail
  go_loopw [3, 4, 5] (fun vo vr i wr => ∃ (q no nr : Nat), q ≤ n ∧ i = .int .i64 q ∧ RowKit.Hid (TkI w1 wr vo vr no nr (((z.l.take q).filter (dueB z)).map (·.1)) ((z.l.take q).filter (fun x => !dueB z x)))) (fun _ _ i _ => n - (intOf i).toNat)
  case atStart => exact ⟨0, 0, 0, Nat.zero_le _, rfl, H0⟩
  case round =>
    obtain ⟨q, no, nr, hq, rfl, HK⟩ := hrel
    have hR := HH.out.no HK.out.fr
    have c2 := hR.c2
    rw [HLV.out] at c2
    change wr.cell? ⟨p, 2, none⟩ = some (.slice a z.l.length c) at c2
    rw [← HN.out] at c2
    have HR := hid hR
    by_cases hqn : q < n
    · have hx := List.getElem?_eq_getElem (l := z.l) (i := q) (by rw [← HN.out]; exact hqn)
      generalize z.l[q]'(by rw [← HN.out]; exact hqn) = x at hx
      obtain ⟨g, c', hlv, hat, e0, e1⟩ := hR.at_ hx
      have e := HLV.out
      rw [hlv] at e
      simp only [Value.slice.injEq] at e
      obtain ⟨rfl, -, rfl⟩ := e
      have hxx := HAT.out x (List.mem_of_getElem? hx)
      rw [← HNOW.out] at hxx
      have hws := IntWalk.i64_in (now + 1 - x.2) (by omega)
      have c0 : wr.cell? ⟨p, 0, none⟩ = some (iv z.time) := hR.c0
      have c1 : wr.cell? ⟨p, 1, none⟩ = some (iv (now + 1)) := hR.c1
      obtain ⟨va, vc, rfl⟩ := own_form HK.out.r1
      obtain ⟨ra, rc, rfl⟩ := own_form HK.out.r2
      have hnr := ownO_len HK.out.r2
      have hno : no ≤ 100000 := by
        have h1 := HK.out.r1.1
        rw [List.length_map, List.length_map] at h1
        have h2 : ((z.l.take q).filter (dueB z)).length ≤ (z.l.take q).length := List.length_filter_le _ _
        rw [List.length_take] at h2
        omega
      have hnr2 : nr ≤ 100000 := by
        rw [hnr]
        have h2 : ((z.l.take q).filter (fun x => !dueB z x)).length ≤ (z.l.take q).length := List.length_filter_le _ _
        rw [List.length_take] at h2
        omega
      have HX := hid hx
      have HXA := hid hat
      obtain ⟨lo, hlo⟩ : ∃ lo, lo = ((z.l.take q).filter (dueB z)).map (·.1) := ⟨_, rfl⟩
      obtain ⟨lr, hlr⟩ : ∃ lr, lr = (z.l.take q).filter (fun x => !dueB z x) := ⟨_, rfl⟩
      rw [← hlo, ← hlr] at HK
      rw [← hlr] at hnr
      have HLO := hid hlo
      have HLR := hid hlr
      have HNR := hid hnr
      clear hx hlv hat hR hlo hlr hnr
      by_cases hd : z.time ≤ now + 1 - x.2
      · have d1 : decide (z.time ≤ now + 1 - x.2) = true := decide_eq_true hd
        have HD := hid (show dueB z x = true by unfold dueB; rw [← HNOW.out]; exact d1)
        clear hd
        go_upto_region 7 with fail
        go_quiet (fail)
        obtain ⟨wq, hwq⟩ : ∃ wq, wq = wr.drewN nq := ⟨_, rfl⟩
        have HKQ := hid (show TkI w1 wq (.slice va no vc) (.slice ra nr rc) no nr lo lr by rw [hwq]; exact HK.out.kept ((Fr.refl _ _).drewN _))
        have q2 : wq.cell? ⟨p, 2, none⟩ = some (.slice (some ⟨g, 0, none⟩) n c') := by rw [hwq]; exact c2
        have qe0 : wq.cell? ⟨g, q * 2, none⟩ = some (.int .u64 x.1) := by rw [hwq]; exact e0
        have HQA := hid (show AtL wq g (q * 2) (onc x) from fun j u hu => by rw [hwq]; exact HXA.out j u hu)
        rw [← hwq]
        clear c0 c1 c2 e0 e1 hwq hws d1
        go_wp2_with (first
          | ((with_reducible refine at_op ⟨some 50, _, _, _, _, _⟩ ?_); go_loud (refine wpList_pushU rfl (.tmp 40) (.tmp 49) rfl w1.heap.size (.slice va no vc) no lo x.1 rfl (World.ownsRow.alloc HKQ.out.r1 _) wq.heap.size 1 rfl (by rw [cell_of_row _ _ 0 _ _ _ (heap_alloc_new wq _)]; rfl) (by omega) (by have := HKQ.out.fr.size; simp; omega) ?_); intro v2 w2 k1 k2; have HK3 := hid (HKQ.out.out k1 k2); clear k1 k2)
          | fail)
        have HK4 := hid (show TkI w1 w2 v2 (.slice ra nr rc) (no + 1) nr (((z.l.take (q + 1)).filter (dueB z)).map (·.1)) ((z.l.take (q + 1)).filter (fun x => !dueB z x)) by
          rw [over_succ HX.out, rest_succ HX.out, HD.out, ← HLO.out, ← HLR.out]
          simp only [if_true, List.append_nil]
          exact HK3.out)
        clear HK3
        go_roundw
        case rel => exact ⟨q + 1, no + 1, nr, by omega, by go_num, HK4⟩
        case measure => simp [intOf]; omega
      · have d1 : decide (z.time ≤ now + 1 - x.2) = false := decide_eq_false hd
        have HD := hid (show dueB z x = false by unfold dueB; rw [← HNOW.out]; exact d1)
        clear hd
        go_upto_region 7 with fail
        go_quiet (fail)
        obtain ⟨wq, hwq⟩ : ∃ wq, wq = wr.drewN nq := ⟨_, rfl⟩
        have HKQ := hid (show TkI w1 wq (.slice va no vc) (.slice ra nr rc) no nr lo lr by rw [hwq]; exact HK.out.kept ((Fr.refl _ _).drewN _))
        have q2 : wq.cell? ⟨p, 2, none⟩ = some (.slice (some ⟨g, 0, none⟩) n c') := by rw [hwq]; exact c2
        have qe0 : wq.cell? ⟨g, q * 2, none⟩ = some (.int .u64 x.1) := by rw [hwq]; exact e0
        have HQA := hid (show AtL wq g (q * 2) (onc x) from fun j u hu => by rw [hwq]; exact HXA.out j u hu)
        rw [← hwq]
        clear c0 c1 c2 e0 e1 hwq hws d1
        have HRW := hid (show wq.ownsRow w1.heap.size TOn 2 (.slice ra nr rc) lr.length (onv lr) by have h := HKQ.out.r2; rw [← HNR.out]; exact h)
        have hlr9 : lr.length ≤ 100000 := by rw [← HNR.out]; exact hnr2
        go_wp2_with (first
          | ((with_reducible refine at_op ⟨some 58, _, _, _, _, _⟩ ?_); refine wpList_runW rfl (.agg #[.int .u64 x.1, .int .i64 x.2]) (load_cells Try.underlying42 rfl (by kernel_rfl) rfl rfl HQA.out) ?_)
          | ((with_reducible refine at_op ⟨some 60, _, _, _, _, _⟩ ?_); go_loud (refine wpList_appO rfl (.tmp 51) (.tmp 59) rfl w1.heap.size (.slice ra nr rc) lr [x] rfl (World.ownsRow.alloc HRW.out _) wq.heap.size 0 1 1 rfl rfl (fun j y hy => new_on wq x j y hy) (by simp; omega) (by have := HKQ.out.fr.size; simp; omega) ?_); intro v2 w2 k1 k2 k3; have HK3 := hid (HKQ.out.rest k1 k2); clear k1 k2 k3)
          | fail)
        have HK4 := hid (show TkI w1 w2 (.slice va no vc) v2 no (lr ++ [x]).length (((z.l.take (q + 1)).filter (dueB z)).map (·.1)) ((z.l.take (q + 1)).filter (fun x => !dueB z x)) by
          rw [over_succ HX.out, rest_succ HX.out, HD.out, ← HLO.out, ← HLR.out]
          simp only [Bool.false_eq_true, if_false, List.append_nil]
          exact HK3.out)
        clear HK3
        go_roundw
        case rel => exact ⟨q + 1, no, _, by omega, by go_num, HK4⟩
        case measure => simp [intOf]; omega
    · obtain rfl : n = q := by omega
      have hall : z.l.take n = z.l := List.take_of_length_le (by rw [← HN.out]; exact Nat.le_refl _)
      have hK := HK.out
      rw [hall] at hK
      have HK2 := hid hK
      obtain ⟨va, vc, rfl⟩ := own_form hK.r1
      obtain ⟨ra, rc, rfl⟩ := own_form hK.r2
      have z2 := hR.fz 2
      clear hall hK hqn hR
      go_wp2_with fail
      go_ret
      obtain ⟨k1, k2⟩ := HH.out.set (z2 := z.tick) HK2.out.fr rfl (by show z.now + 1 = now + 1; rw [HNOW.out]) HK2.out.r2
      have h4 : Fr (fun b => b = p) wr (wr.setCell ⟨p, 2, none⟩ (.slice ra nr rc)) := (Fr.refl _ _).setCell _ _ (fun _ => rfl)
      have hs : w.heap.size = w1.heap.size := by rw [HW1.out]; simp
      refine ⟨⟨_, no, rfl, ?_⟩, ⟨_, ⟨k1.hp, k1.row, ?_, fun k hk => ?_, fun k hk => ?_⟩⟩, HF1.out.trans k2 (fun k hk _ => hk)⟩
      · rw [hs]
        exact h4.owns HK2.out.r1 (fun k hk e => by have := (HK2.out.r1.lt k hk).1; have := HH.out.lt; omega)
      · exact .inl HH.out.sp
      · rcases k1.sr k hk with e | e
        · exact .inl e
        · exact .inr ⟨by omega, e.2⟩
      · rcases hk with e | e
        · exact k1.sl k (.inl e)
        · exact e.2
end
end Go.Proofs.Ytbdhjkdojgdhbaa
