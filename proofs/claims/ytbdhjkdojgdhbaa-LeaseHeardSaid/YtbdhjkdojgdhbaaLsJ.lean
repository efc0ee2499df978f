/-
  The plain twin's Join, Tick.
-/
import Derived.Test.YtbdhjkdojgdhbaaLsR
namespace Go.Proofs.Ytbdhjkdojgdhbaa
open Go Go.ChangeShapes Go.WideShapes Go.ChangeAt Go.RowKit

theorem exec_upto {o : Oper} {f : Operand → Value} {W : World} {p q : Operand} {a : Option Addr} {n cap k : Nat} (ho : o.op = .slice TSO p none (some q) none) (hp : f p = .slice a n cap) (hl : f q = .int .i64 (k : Int)) (h1 : k ≤ cap) :
    (execOp f o).run Try.prog W = .ok (.value (.slice a k cap)) W := by
  unfold execOp
  simp only [ho, hp]
  simp only [Option.map, hl]
  cases a with
  | none => go_simp
  | some a => go_simp
theorem exec_from {o : Oper} {f : Operand → Value} {W : World} {p q : Operand} {b n cap k o2 : Nat} (ho : o.op = .slice TSO p (some q) none none) (hp : f p = .slice (some ⟨b, 0, none⟩) n cap) (hl : f q = .int .i64 (k : Int)) (h1 : k ≤ n) (h2 : cap = k ∧ o2 = 0 ∨ ¬ cap = k ∧ o2 = k * 2) :
    (execOp f o).run Try.prog W = .ok (.value (.slice (some ⟨b, o2, none⟩) (n - k) (cap - k))) W := by
  unfold execOp
  simp only [ho, hp]
  simp only [Option.map, hl]
  rcases h2 with ⟨h4, rfl⟩ | ⟨h4, rfl⟩
  · go_simp
    done
  · go_simp
    done
theorem exec_from0 {o : Oper} {f : Operand → Value} {W : World} {p q : Operand} (ho : o.op = .slice TSO p (some q) none none) (hp : f p = .slice none 0 0) (hl : f q = .int .i64 0) :
    (execOp f o).run Try.prog W = .ok (.value (.slice none 0 0)) W := by
  unfold execOp
  simp only [ho, hp]
  simp only [Option.map, hl]
  go_simp
theorem GrO.grow {w wr wd w2 : World} {v v2 : Value} {n m : Nat} {l l2 : List On} (h : GrO w wr v n l) (hf : Fr (fun _ => False) wr wd) (k1 : w2.ownsRow w.heap.size TOn 2 v2 m (onv l2)) (k2 : wd.grownBy w2 v.ownBlock) : GrO w w2 v2 m l2 :=
  ⟨k1, (h.fr.trans hf (fun _ e _ => e)).grown k2 (fun k hk hl => by have := (h.row.lt k hk).1; omega)⟩
theorem take_succ_low {k : Int} {l : List On} {q : Nat} (h : ∀ (j : Nat) (y : On), j < q → l[j]? = some y → y.1 < k) : q ≤ l.length → q ≤ lowK k l := by
  intro hq
  refine Classical.byContradiction fun hn => ?_
  have hlt : lowK k l < l.length := by omega
  exact low_stop (List.getElem?_eq_getElem hlt) (h _ _ (by omega) (List.getElem?_eq_getElem hlt))
/-- The two ends of a row that is told, nil or not. -/
structure TwE (w : World) (v : Value) (n : Nat) (l : List On) : Prop where
  len : n = l.length
  ex : (v = .slice none 0 0 ∧ n = 0) ∨ ∃ g c, v = .slice (some ⟨g, 0, none⟩) n c ∧ n ≤ c ∧ g < w.heap.size ∧ ∀ (j : Nat) y, l[j]? = some y → AtL w g (0 + j * 2) (onc y)
theorem TwE.of {w : World} {B n : Nat} {v : Value} {l : List On} (h : w.ownsRow B TOn 2 v n (onv l)) : TwE w v n l := by
  refine ⟨ownO_len h, ?_⟩
  rcases h.2 with ⟨e, hn⟩ | ⟨g, cap, cur, e, _, hg, hc, _⟩
  · exact .inl ⟨e, hn⟩
  · refine .inr ⟨g, cap, e, hc, (Array.getElem?_eq_some_iff.1 hg).1, fun j y hy => ?_⟩
    rw [e] at h
    rw [Nat.zero_add]
    exact own_at h hy
theorem TwE.no {w w' : World} {n : Nat} {v : Value} {l : List On} (h : TwE w v n l) (hf : Fr (fun _ => False) w w') : TwE w' v n l := by
  refine ⟨h.len, ?_⟩
  rcases h.ex with e | ⟨g, c, h1, h2, h3, h4⟩
  · exact .inl e
  · exact .inr ⟨g, c, h1, h2, Nat.lt_of_lt_of_le h3 hf.size, fun j y hy i u hu => (World.cell?_of_block (w := w) (w' := w') (a := ⟨g, 0 + j * 2 + i, none⟩) (hf.block g h3 (fun e => e))).trans (h4 j y hy i u hu)⟩
theorem exS_tr {S : Nat → Prop} {w w1 w2 : World} (h1 : w.heap.size ≤ w1.heap.size) (h2 : w1.heap.size ≤ w2.heap.size) {k : Nat} (h : exS (exS S w w1) w1 w2 k) : exS S w w2 k := by
  rcases h with (h | h) | h
  · exact .inl h
  · exact .inr ⟨h.1, by omega⟩
  · exact .inr ⟨by omega, h.2⟩
section
variable {w w' : World} {S fp : Nat → Prop} {p : Nat} {z : Lz} {lv : Value}
set_option maxRecDepth 100000 in
set_option maxHeartbeats 8000000 in
theorem RJoin_any (h : RlW w S p z lv) (k : Int) (hl : z.l.length ≤ 100000) : Calls Try.prog 23 #[.pointer (some ⟨p, 0, none⟩), .int .u64 k] w fun e w' => e = .returned (.bool (!hasK k z.l)) ∧ (∃ lv2, RlW w' (exS S w w') p (z.join k) lv2) ∧ Fr S w w' := by
  have HLV := hid (RLeave_any h k hl)
  have HSL := hid h.sl
  have hlo : (outK k z.l).length ≤ 100000 := Nat.le_trans (List.length_filter_le _ _) hl
  obtain ⟨b, hb⟩ : ∃ b, b = hasK k z.l := ⟨_, rfl⟩
  rw [← hb] at HLV ⊢
  clear h hb hl
  go_enter Try.func23, Try.ntmps23
  go_wp2_with fail
  refine HLV.out.mono ?_
  rintro e w2 ⟨rfl, ⟨lv2, h2⟩, hf2⟩
  have HF2 := hid hf2
  clear hf2 HLV
  obtain ⟨l2, hl2⟩ : ∃ l2, l2 = outK k z.l := ⟨_, rfl⟩
  rw [← hl2] at hlo
  have hz2 : (z.leave k).l = l2 := hl2.symm
  obtain ⟨n, hn⟩ : ∃ n, n = l2.length := ⟨_, rfl⟩
  have hrow := h2.row
  rw [hz2, ← hn] at hrow
  obtain ⟨a, c, hlv⟩ := own_form hrow
  subst hlv
  have HTE := hid (TwE.of hrow)
  have HH := hid h2
  have HN := hid hn
  have HL2 := hid hl2
  have HZ2 := hid hz2
  have c2 := h2.c2
  have c1 := h2.c1
  have z2f := h2.fz 2
  change w2.cell? ⟨p, 1, none⟩ = some (iv z.now) at c1
  rw [← hn] at hlo
  clear h2 hrow hl2 hn hz2
  go_wp2_with fail
  go_loopw [6] (fun i wr => ∃ q : Nat, q ≤ n ∧ i = .int .i64 q ∧ wr = w2 ∧ RowKit.Hid (∀ (j : Nat) (y : On), j < q → l2[j]? = some y → y.1 < k)) (fun i _ => n - (intOf i).toNat)
  case atStart => exact ⟨0, Nat.zero_le _, rfl, rfl, hid (fun j y h => by omega)⟩
  case round =>
    obtain ⟨q, hq, rfl, rfl, HK⟩ := hrel
    -- what is done behind the loop
    by_cases hqn : q < n
    · have dn : decide ((q : Int) < (n : Int)) = true := decide_eq_true (by omega)
      have hx := List.getElem?_eq_getElem (l := l2) (i := q) (by rw [← HN.out]; exact hqn)
      generalize l2[q]'(by rw [← HN.out]; exact hqn) = x at hx
      rcases HTE.out.ex with ⟨_, e0⟩ | ⟨g, c', hlv, hcap, _, hat⟩
      · omega
      simp only [Value.slice.injEq] at hlv
      obtain ⟨rfl, -, rfl⟩ := hlv
      have e0 : wr.cell? ⟨g, q * 2, none⟩ = some (.int .u64 x.1) := by have := hat q x hx 0 _ rfl; rw [Nat.zero_add] at this; exact this
      have HX := hid hx
      have HAT := hid hat
      by_cases hk : x.1 < k
      · have d1 : decide (x.1 < k) = true := decide_eq_true hk
        have HK2 := hid (show ∀ (j : Nat) (y : On), j < q + 1 → l2[j]? = some y → y.1 < k from fun j y hj hy => by
          by_cases hjq : j < q
          · exact HK.out j y hjq hy
          · obtain rfl : j = q := by omega
            rw [HX.out] at hy
            cases hy
            exact hk)
        clear hk hx hat
        go_wp2_with fail
        go_roundw
        case rel => exact ⟨q + 1, by omega, by go_num, trivial, HK2⟩
        case measure => simp [intOf]; omega
      · have d1 : decide (x.1 < k) = false := decide_eq_false hk
        have HQ := hid (show q = lowK k l2 from Nat.le_antisymm (take_succ_low HK.out (by rw [← HN.out]; exact hq)) (by
          refine Classical.byContradiction fun hlt => ?_
          obtain ⟨y, hy, hyk⟩ := low_at (k := k) (l := l2) (i := q) (by omega)
          rw [HX.out] at hy
          cases hy
          exact hk hyk))
        clear hk hx hat
        have HAT2 := HAT
        clear HAT
        have HAT := HAT2
        clear HAT2
        obtain ⟨o2, ho2⟩ : ∃ o2, c = q ∧ o2 = 0 ∨ ¬ c = q ∧ o2 = q * 2 := by
          by_cases e : c = q
          · exact ⟨0, .inl ⟨e, rfl⟩⟩
          · exact ⟨q * 2, .inr ⟨e, rfl⟩⟩
        have HO2 := hid ho2
        have HD1 := hid (show ∀ (j : Nat) y, (l2.take q)[j]? = some y → AtL wr g (0 + j * 2) (onc y) from fun j y hy => HAT.out j y (by
          rw [List.getElem?_take] at hy
          split at hy
          · exact hy
          · cases hy))
        have HD2 := hid (show ∀ W, Fr (fun _ => False) wr W → ∀ (j : Nat) y, (l2.drop q)[j]? = some y → AtL W g (o2 + j * 2) (onc y) from fun W hW j y hy => by
          rw [List.getElem?_drop] at hy
          have hj := (List.getElem?_eq_some_iff.1 hy).1
          have h5 := HAT.out (q + j) y hy
          have e : o2 = q * 2 := by
            rcases HO2.out with ⟨e, _⟩ | ⟨_, e⟩
            · have := HN.out; omega
            · exact e
          rw [e]
          intro i u hu
          have h6 := h5 i u hu
          rw [show 0 + (q + j) * 2 + i = q * 2 + j * 2 + i by omega] at h6
          exact (World.cell?_of_block (w := wr) (w' := W) (a := ⟨g, q * 2 + j * 2 + i, none⟩) (hW.block g (World.block_lt_of_cell? wr _ h6) (fun e => e))).trans h6)
        have htk : (l2.take q).length = q := by rw [List.length_take]; have := HN.out; omega
        have hdr : (l2.drop q).length = n - q := by rw [List.length_drop]; have := HN.out; omega
        have HTK := hid htk
        have HDR := hid hdr
        clear ho2 htk hdr
        go_upto_region 7 with (first
          | ((with_reducible refine at_op ⟨some 38, _, _, _, _, _⟩ ?_); go_loud (refine wpList_runN rfl _ _ (exec_upto (k := q) rfl rfl rfl (by omega)) ?_))
          | ((with_reducible refine at_op ⟨some 39, _, _, _, _, _⟩ ?_); go_loud (refine wpList_appO rfl (.tmp 32) (.tmp 38) rfl wr.heap.size (.slice none 0 0) [] (l2.take q) rfl (World.ownsRow_nil _ _ _ _) g 0 q c rfl HTK.out.symm HD1.out (by have := HTK.out; simp; omega) (Nat.le_refl _) ?_); intro v3 w3 k1 k2 k3; obtain ⟨n3, hn3⟩ : ∃ n3, n3 = ([] ++ l2.take q).length := ⟨_, rfl⟩; rw [← hn3] at k1; obtain ⟨a3, d3, rfl⟩ := own_form k1; have HG3 := hid (show GrO wr w3 (.slice a3 n3 d3) n3 (l2.take q) from ⟨by simpa using k1, (Fr.refl _ _).grown k2 (fun k hk => by cases hk)⟩); clear k1 k2 k3 hn3)
          | fail)
        have h3 := HH.out.no HG3.out.fr
        have c13 : w3.cell? ⟨p, 1, none⟩ = some (iv z.now) := h3.c1
        have c23 : w3.cell? ⟨p, 2, none⟩ = some (.slice (some ⟨g, 0, none⟩) n c) := (World.cell?_of_block (w := wr) (w' := w3) (a := ⟨p, 2, none⟩) (HG3.out.fr.block p HH.out.lt (fun e => e))).trans c2
        have hn3 := ownO_len HG3.out.row
        have HR3 := hid (show w3.ownsRow wr.heap.size TOn 2 (.slice a3 n3 d3) (l2.take q).length (onv (l2.take q)) by have h := HG3.out.row; rw [← hn3]; exact h)
        clear h3 hn3
        go_upto_region 8 with (first
          | ((with_reducible refine at_op ⟨some 48, _, _, _, _, _⟩ ?_); go_loud (refine wpList_appO rfl (.tmp 40) (.tmp 47) rfl wr.heap.size (.slice a3 n3 d3) (l2.take q) [(k, z.now)] rfl (World.ownsRow.alloc HR3.out _) w3.heap.size 0 1 1 rfl rfl (fun j y hy => new_on w3 (k, z.now) j y hy) (by have := HTK.out; simp; omega) (by have := HG3.out.fr.size; simp; omega) ?_); intro v4 w4 k1 k2 k3; obtain ⟨n4, hn4⟩ : ∃ n4, n4 = (l2.take q ++ [(k, z.now)]).length := ⟨_, rfl⟩; rw [← hn4] at k1; obtain ⟨a4, d4, rfl⟩ := own_form k1; have HG4 := hid (HG3.out.grow ((Fr.refl _ _).alloc _) k1 k2); clear k1 k2 k3 hn4)
          | fail)
        have c24 : w4.cell? ⟨p, 2, none⟩ = some (.slice (some ⟨g, 0, none⟩) n c) := (World.cell?_of_block (w := wr) (w' := w4) (a := ⟨p, 2, none⟩) (HG4.out.fr.block p HH.out.lt (fun e => e))).trans c2
        have hn4 := ownO_len HG4.out.row
        have hlen4 : (l2.take q ++ [(k, z.now)]).length = q + 1 := by have := HTK.out; simp only [List.length_append, List.length_singleton]; omega
        have HR4 := hid (show w4.ownsRow wr.heap.size TOn 2 (.slice a4 n4 d4) (l2.take q ++ [(k, z.now)]).length (onv (l2.take q ++ [(k, z.now)])) by have h := HG4.out.row; rw [← hn4]; exact h)
        have HL4 := hid hlen4
        clear c13 c23 hn4 hlen4 HR3
        go_wp2_with (first
          | ((with_reducible refine at_op ⟨some 56, _, _, _, _, _⟩ ?_); go_loud (refine wpList_runN rfl _ _ (exec_from (k := q) rfl rfl rfl (by omega) HO2.out) ?_))
          | ((with_reducible refine at_op ⟨some 57, _, _, _, _, _⟩ ?_); go_loud (refine wpList_appO rfl (.tmp 50) (.tmp 56) rfl wr.heap.size (.slice a4 n4 d4) (l2.take q ++ [(k, z.now)]) (l2.drop q) rfl HR4.out g o2 _ _ rfl HDR.out.symm (HD2.out _ HG4.out.fr) (by have := HL4.out; have := HDR.out; omega) HG4.out.fr.size ?_); intro v5 w5 k1 k2 k3; obtain ⟨n5, hn5⟩ : ∃ n5, n5 = (l2.take q ++ [(k, z.now)] ++ l2.drop q).length := ⟨_, rfl⟩; rw [← hn5] at k1; obtain ⟨a5, d5, rfl⟩ := own_form k1; have hG5 := HG4.out.grow (Fr.refl _ _) k1 k2; have h5 := HH.out.no hG5.fr; have z25 := h5.fz 2; have c25 := h5.c2; have HG5 := hid hG5; clear k1 k2 k3 hn5 hG5 h5)
          | fail)
        go_ret
        obtain ⟨q1, q2⟩ := HH.out.set (z2 := z.join k) HG5.out.fr rfl rfl (by
          have h := HG5.out.row
          have e : (z.join k).l = l2.take q ++ [(k, z.now)] ++ l2.drop q := by
            show inK k z.now z.l = _
            unfold inK
            rw [← HL2.out, HQ.out]
          rw [e]
          exact h)
        have hff := HF2.out.trans q2 (fun k hk hl => by rcases hk with e | e; exact e; exact absurd e.1 (by omega))
        refine ⟨rfl, ⟨_, ⟨q1.hp, q1.row, exS_tr HF2.out.size q2.size q1.sp, fun k hk => exS_tr HF2.out.size q2.size (q1.sr k hk), fun k hk => ?_⟩⟩, hff⟩
        rcases hk with e | e
        · exact Nat.lt_of_lt_of_le (HSL.out k e) hff.size
        · exact e.2
    · have dn : decide ((q : Int) < (n : Int)) = false := decide_eq_false (by omega)
      have HQ := hid (show q = lowK k l2 from Nat.le_antisymm (take_succ_low HK.out (by rw [← HN.out]; exact hq)) (by have := low_le k l2; have := HN.out; omega))
      rcases HTE.out.ex with ⟨e0, e1⟩ | ⟨g, c', hlv, hcap, _, hat⟩
      · subst e1
        obtain rfl : q = 0 := by omega
        simp only [Value.slice.injEq] at e0
        obtain ⟨rfl, -, rfl⟩ := e0
        have hz : l2 = [] := List.length_eq_zero_iff.1 HN.out.symm
        have HZL := hid hz
        clear hqn hz dn
        go_upto_region 7 with (first
          | ((with_reducible refine at_op ⟨some 38, _, _, _, _, _⟩ ?_); go_loud (refine wpList_runN rfl _ _ (exec_upto (k := 0) rfl rfl rfl (by omega)) ?_))
          | ((with_reducible refine at_op ⟨some 39, _, _, _, _, _⟩ ?_); go_loud (refine wpList_appO0 rfl (.tmp 32) (.tmp 38) rfl wr.heap.size (.slice none 0 0) [] rfl (World.ownsRow_nil _ _ _ _) rfl ?_))
          | fail)
        go_upto_region 8 with (first
          | ((with_reducible refine at_op ⟨some 48, _, _, _, _, _⟩ ?_); go_loud (refine wpList_appO rfl (.tmp 40) (.tmp 47) rfl wr.heap.size (.slice none 0 0) [] [(k, z.now)] rfl (World.ownsRow_nil _ _ _ _) wr.heap.size 0 1 1 rfl rfl (fun j y hy => new_on wr (k, z.now) j y hy) (by simp) (by simp) ?_); intro v4 w4 k1 k2 k3; obtain ⟨n4, hn4⟩ : ∃ n4, n4 = ([] ++ [(k, z.now)]).length := ⟨_, rfl⟩; rw [← hn4] at k1; obtain ⟨a4, d4, rfl⟩ := own_form k1; have HG5 := hid (show GrO wr w4 (.slice a4 n4 d4) n4 [(k, z.now)] from ⟨by simpa using k1, ((Fr.refl _ _).alloc _).grown k2 (fun k hk => by cases hk)⟩); clear k1 k2 k3 hn4)
          | fail)
        have c24 : w4.cell? ⟨p, 2, none⟩ = some (.slice none 0 0) := (World.cell?_of_block (w := wr) (w' := w4) (a := ⟨p, 2, none⟩) (HG5.out.fr.block p HH.out.lt (fun e => e))).trans c2
        have z24 := (HH.out.no HG5.out.fr).fz 2
        have hn4 := ownO_len HG5.out.row
        have HR4 := hid (show w4.ownsRow wr.heap.size TOn 2 (.slice a4 n4 d4) [(k, z.now)].length (onv [(k, z.now)]) by have h := HG5.out.row; rw [← hn4]; exact h)
        clear hn4
        go_wp2_with (first
          | ((with_reducible refine at_op ⟨some 56, _, _, _, _, _⟩ ?_); go_loud (refine wpList_runN rfl _ _ (exec_from0 rfl rfl rfl) ?_))
          | ((with_reducible refine at_op ⟨some 57, _, _, _, _, _⟩ ?_); go_loud (refine wpList_appO0 rfl (.tmp 50) (.tmp 56) rfl wr.heap.size (.slice a4 n4 d4) [(k, z.now)] rfl HR4.out rfl ?_))
          | fail)
        go_ret
        obtain ⟨q1, q2⟩ := HH.out.set (z2 := z.join k) HG5.out.fr rfl rfl (by
          have h := HG5.out.row
          have e : (z.join k).l = [(k, z.now)] := by
            show inK k z.now z.l = _
            unfold inK
            rw [← HL2.out, HZL.out]
            rfl
          rw [e]
          exact h)
        have hff := HF2.out.trans q2 (fun k hk hl => by rcases hk with e | e; exact e; exact absurd e.1 (by omega))
        refine ⟨rfl, ⟨_, ⟨q1.hp, q1.row, exS_tr HF2.out.size q2.size q1.sp, fun k hk => exS_tr HF2.out.size q2.size (q1.sr k hk), fun k hk => ?_⟩⟩, hff⟩
        rcases hk with e | e
        · exact Nat.lt_of_lt_of_le (HSL.out k e) hff.size
        · exact e.2
      · simp only [Value.slice.injEq] at hlv
        obtain ⟨rfl, -, rfl⟩ := hlv
        have HAT := hid hat
        clear hat
        obtain ⟨o2, ho2⟩ : ∃ o2, c = q ∧ o2 = 0 ∨ ¬ c = q ∧ o2 = q * 2 := by
          by_cases e : c = q
          · exact ⟨0, .inl ⟨e, rfl⟩⟩
          · exact ⟨q * 2, .inr ⟨e, rfl⟩⟩
        have HO2 := hid ho2
        have HD1 := hid (show ∀ (j : Nat) y, (l2.take q)[j]? = some y → AtL wr g (0 + j * 2) (onc y) from fun j y hy => HAT.out j y (by
          rw [List.getElem?_take] at hy
          split at hy
          · exact hy
          · cases hy))
        have HD2 := hid (show ∀ W, Fr (fun _ => False) wr W → ∀ (j : Nat) y, (l2.drop q)[j]? = some y → AtL W g (o2 + j * 2) (onc y) from fun W hW j y hy => by
          rw [List.getElem?_drop] at hy
          have hj := (List.getElem?_eq_some_iff.1 hy).1
          have h5 := HAT.out (q + j) y hy
          have e : o2 = q * 2 := by
            rcases HO2.out with ⟨e, _⟩ | ⟨_, e⟩
            · have := HN.out; omega
            · exact e
          rw [e]
          intro i u hu
          have h6 := h5 i u hu
          rw [show 0 + (q + j) * 2 + i = q * 2 + j * 2 + i by omega] at h6
          exact (World.cell?_of_block (w := wr) (w' := W) (a := ⟨g, q * 2 + j * 2 + i, none⟩) (hW.block g (World.block_lt_of_cell? wr _ h6) (fun e => e))).trans h6)
        have htk : (l2.take q).length = q := by rw [List.length_take]; have := HN.out; omega
        have hdr : (l2.drop q).length = n - q := by rw [List.length_drop]; have := HN.out; omega
        have HTK := hid htk
        have HDR := hid hdr
        clear ho2 htk hdr
        go_upto_region 7 with (first
          | ((with_reducible refine at_op ⟨some 38, _, _, _, _, _⟩ ?_); go_loud (refine wpList_runN rfl _ _ (exec_upto (k := q) rfl rfl rfl (by omega)) ?_))
          | ((with_reducible refine at_op ⟨some 39, _, _, _, _, _⟩ ?_); go_loud (refine wpList_appO rfl (.tmp 32) (.tmp 38) rfl wr.heap.size (.slice none 0 0) [] (l2.take q) rfl (World.ownsRow_nil _ _ _ _) g 0 q c rfl HTK.out.symm HD1.out (by have := HTK.out; simp; omega) (Nat.le_refl _) ?_); intro v3 w3 k1 k2 k3; obtain ⟨n3, hn3⟩ : ∃ n3, n3 = ([] ++ l2.take q).length := ⟨_, rfl⟩; rw [← hn3] at k1; obtain ⟨a3, d3, rfl⟩ := own_form k1; have HG3 := hid (show GrO wr w3 (.slice a3 n3 d3) n3 (l2.take q) from ⟨by simpa using k1, (Fr.refl _ _).grown k2 (fun k hk => by cases hk)⟩); clear k1 k2 k3 hn3)
          | fail)
        have h3 := HH.out.no HG3.out.fr
        have c13 : w3.cell? ⟨p, 1, none⟩ = some (iv z.now) := h3.c1
        have c23 : w3.cell? ⟨p, 2, none⟩ = some (.slice (some ⟨g, 0, none⟩) n c) := (World.cell?_of_block (w := wr) (w' := w3) (a := ⟨p, 2, none⟩) (HG3.out.fr.block p HH.out.lt (fun e => e))).trans c2
        have hn3 := ownO_len HG3.out.row
        have HR3 := hid (show w3.ownsRow wr.heap.size TOn 2 (.slice a3 n3 d3) (l2.take q).length (onv (l2.take q)) by have h := HG3.out.row; rw [← hn3]; exact h)
        clear h3 hn3
        go_upto_region 8 with (first
          | ((with_reducible refine at_op ⟨some 48, _, _, _, _, _⟩ ?_); go_loud (refine wpList_appO rfl (.tmp 40) (.tmp 47) rfl wr.heap.size (.slice a3 n3 d3) (l2.take q) [(k, z.now)] rfl (World.ownsRow.alloc HR3.out _) w3.heap.size 0 1 1 rfl rfl (fun j y hy => new_on w3 (k, z.now) j y hy) (by have := HTK.out; simp; omega) (by have := HG3.out.fr.size; simp; omega) ?_); intro v4 w4 k1 k2 k3; obtain ⟨n4, hn4⟩ : ∃ n4, n4 = (l2.take q ++ [(k, z.now)]).length := ⟨_, rfl⟩; rw [← hn4] at k1; obtain ⟨a4, d4, rfl⟩ := own_form k1; have HG4 := hid (HG3.out.grow ((Fr.refl _ _).alloc _) k1 k2); clear k1 k2 k3 hn4)
          | fail)
        have c24 : w4.cell? ⟨p, 2, none⟩ = some (.slice (some ⟨g, 0, none⟩) n c) := (World.cell?_of_block (w := wr) (w' := w4) (a := ⟨p, 2, none⟩) (HG4.out.fr.block p HH.out.lt (fun e => e))).trans c2
        have hn4 := ownO_len HG4.out.row
        have hlen4 : (l2.take q ++ [(k, z.now)]).length = q + 1 := by have := HTK.out; simp only [List.length_append, List.length_singleton]; omega
        have HR4 := hid (show w4.ownsRow wr.heap.size TOn 2 (.slice a4 n4 d4) (l2.take q ++ [(k, z.now)]).length (onv (l2.take q ++ [(k, z.now)])) by have h := HG4.out.row; rw [← hn4]; exact h)
        have HL4 := hid hlen4
        clear c13 c23 hn4 hlen4 HR3
        go_wp2_with (first
          | ((with_reducible refine at_op ⟨some 56, _, _, _, _, _⟩ ?_); go_loud (refine wpList_runN rfl _ _ (exec_from (k := q) rfl rfl rfl (by omega) HO2.out) ?_))
          | ((with_reducible refine at_op ⟨some 57, _, _, _, _, _⟩ ?_); go_loud (refine wpList_appO rfl (.tmp 50) (.tmp 56) rfl wr.heap.size (.slice a4 n4 d4) (l2.take q ++ [(k, z.now)]) (l2.drop q) rfl HR4.out g o2 _ _ rfl HDR.out.symm (HD2.out _ HG4.out.fr) (by have := HL4.out; have := HDR.out; omega) HG4.out.fr.size ?_); intro v5 w5 k1 k2 k3; obtain ⟨n5, hn5⟩ : ∃ n5, n5 = (l2.take q ++ [(k, z.now)] ++ l2.drop q).length := ⟨_, rfl⟩; rw [← hn5] at k1; obtain ⟨a5, d5, rfl⟩ := own_form k1; have hG5 := HG4.out.grow (Fr.refl _ _) k1 k2; have h5 := HH.out.no hG5.fr; have z25 := h5.fz 2; have c25 := h5.c2; have HG5 := hid hG5; clear k1 k2 k3 hn5 hG5 h5)
          | fail)
        go_ret
        obtain ⟨q1, q2⟩ := HH.out.set (z2 := z.join k) HG5.out.fr rfl rfl (by
          have h := HG5.out.row
          have e : (z.join k).l = l2.take q ++ [(k, z.now)] ++ l2.drop q := by
            show inK k z.now z.l = _
            unfold inK
            rw [← HL2.out, HQ.out]
          rw [e]
          exact h)
        have hff := HF2.out.trans q2 (fun k hk hl => by rcases hk with e | e; exact e; exact absurd e.1 (by omega))
        refine ⟨rfl, ⟨_, ⟨q1.hp, q1.row, exS_tr HF2.out.size q2.size q1.sp, fun k hk => exS_tr HF2.out.size q2.size (q1.sr k hk), fun k hk => ?_⟩⟩, hff⟩
        rcases hk with e | e
        · exact Nat.lt_of_lt_of_le (HSL.out k e) hff.size
        · exact e.2
end
end Go.Proofs.Ytbdhjkdojgdhbaa
