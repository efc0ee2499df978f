/-
  The plain twin's ring.
-/
import Derived.Test.YtmkajdfajcodjabRgA
import Derived.Test.YtmkajdfajcodjabGen
namespace Go.Proofs.Ytmkajdfajcodjab
open Go Go.ChangeShapes Go.WideShapes Go.ChangeAt Go.RowKit

abbrev TRf : TypeId := 38
/-- append of told numbers. -/
theorem wpList_appZ {w : World} {ops : Array Oper} {rest : List Oper} {o : Oper} {a : Act} {Q : Exit → Act → World → Prop} (hg : o.guard = none) (s x : Operand)
    (ho : o.op = Op.call { callee := Callee.builtin Builtin.append, args := #[s, x], argTypes := #[22, 22] }) (B : Nat) (v : Value) (xs ys : List Int) (hs : a.eval s = v) (hown : w.ownsRow B TI 1 v xs.length (xs.map iv)) (g o' n c : Nat) (hx : a.eval x = .slice (some ⟨g, o', none⟩) n c) (hn : n = ys.length)
    (hc : ∀ (j : Nat) y, ys[j]? = some y → w.cell? ⟨g, o' + j, none⟩ = some (iv y)) (hl : xs.length + ys.length ≤ 1000000) (hB : B ≤ w.heap.size)
    (hK : ∀ v' w', w'.ownsRow B TI 1 v' (xs ++ ys).length ((xs ++ ys).map iv) → w.grownBy w' v.ownBlock → (v'.ownBlock = v.ownBlock ∨ v'.ownBlock = some w.heap.size) → wpList Try.prog ops Q rest (a.put o.dst v') w') : wpList Try.prog ops Q (o :: rest) a w := by
  obtain ⟨i, h1, h2, h3, h4⟩ := info_split infoI
  have hml : (9223372036854775807 : Nat) = maxLen := rfl
  refine wpList_append_own_at _ hg s x 22 ho B TI i (.int .i64 0) 1 8 Try.underlying22 h1 h2 h3 h4 rfl (by decide) v _ _ hs hown ⟨g, o', none⟩ n c (ys.map iv) hx (by simp [hn]) (fun j u hu => ?_) (by simp [Value.oneCell']) (by omega) (by omega) hB ?_
  · rw [List.getElem?_map, Option.map_eq_some_iff] at hu
    obtain ⟨y, hy, rfl⟩ := hu
    rw [Addr.add_lit]
    exact hc j y hy
  · intro v' w' k1 k2 _ k4
    refine hK v' w' ?_ k2 k4
    rw [List.length_append, List.map_append, ← hn]
    exact k1
theorem new_one (w : World) (x : Int) (j : Nat) (y : Int) (h : [x][j]? = some y) : (w.alloc (.cells #[iv x] TI)).cell? ⟨w.heap.size, 0 + j, none⟩ = some (iv y) := by
  cases j with
  | zero => simp at h; subst h; rw [cell_of_row _ _ _ _ _ _ (heap_alloc_new _ _)]; rfl
  | succ j => simp at h
/-- The twin in memory. -/
structure RfW (w : World) (S : Nat → Prop) (p most : Nat) (q : List Int) (lv : Value) : Prop where
  hp : w.heap[p]? = some (.cells #[nI most, lv] TRf (0, 0))
  row : w.ownsRow 0 TI 1 lv q.length (q.map iv)
  ql : q.length ≤ most
  mx : most ≤ 65536
  sp : S p
  sr : ∀ k, lv.ownBlock = some k → S k
  sl : ∀ k, S k → k < w.heap.size
section
variable {w w' : World} {S fp : Nat → Prop} {p most : Nat} {q : List Int} {lv : Value}
theorem RfW.c0 (h : RfW w S p most q lv) : w.cell? ⟨p, 0, none⟩ = some (nI most) := by rw [cell_of_row w p 0 _ _ _ h.hp]; rfl
theorem RfW.c1 (h : RfW w S p most q lv) : w.cell? ⟨p, 1, none⟩ = some lv := by rw [cell_of_row w p 1 _ _ _ h.hp]; rfl
theorem RfW.fz (h : RfW w S p most q lv) (k : Nat) : w.frozen? ⟨p, k, none⟩ = false := frozen_of_row w p k _ _ h.hp
theorem RfW.lt (h : RfW w S p most q lv) : p < w.heap.size := (Array.getElem?_eq_some_iff.1 h.hp).1
theorem RfW.fr (h : RfW w S p most q lv) (hf : Fr fp w w') (hd : ∀ k, S k → ¬ fp k) : RfW w' S p most q lv :=
  ⟨(hf.block p h.lt (hd p h.sp)).trans h.hp, hf.owns h.row (fun k hk => hd k (h.sr k hk)), h.ql, h.mx, h.sp, h.sr, fun k hk => Nat.lt_of_lt_of_le (h.sl k hk) hf.size⟩
theorem RfW.ne (h : RfW w S p most q lv) {g : Nat} (hg : lv.ownBlock = some g) : g ≠ p := fun e => by
  subst e
  rcases h.row.2 with ⟨rfl, _⟩ | ⟨g', cap, cur, rfl, _, hgb, _⟩
  · cases hg
  · cases hg
    have := h.hp
    rw [hgb] at this
    simp only [Option.some.injEq, Obj.cells.injEq] at this
    exact absurd this.2.1 (by decide)
/-- Another row is laid into it. -/
theorem RfW.set {q2 : List Int} {v2 : Value} {w2 : World} (h : RfW w S p most q lv) (hf : Fr S w w2) (hp2 : w2.heap[p]? = some (.cells #[nI most, lv] TRf (0, 0))) (hr : w2.ownsRow 0 TI 1 v2 q2.length (q2.map iv)) (hl : q2.length ≤ most) (hb : ∀ k, v2.ownBlock = some k → k ≠ p ∧ (S k ∨ w.heap.size ≤ k)) :
    RfW (w2.setCell ⟨p, 1, none⟩ v2) (exS S w (w2.setCell ⟨p, 1, none⟩ v2)) p most q2 v2 ∧ Fr S w (w2.setCell ⟨p, 1, none⟩ v2) := by
  have hf2 : Fr (fun b => b = p) w2 (w2.setCell ⟨p, 1, none⟩ v2) := (Fr.refl _ _).setCell _ _ (fun _ => rfl)
  have hr2 := hf2.owns hr (fun k hk => (hb k hk).1)
  have hff := hf.trans hf2 (fun k hk _ => by rw [hk]; exact h.sp)
  refine ⟨⟨by rw [heap_setCell_same _ _ _ _ _ _ hp2]; rfl, hr2, hl, h.mx, .inl h.sp, fun k hk => ?_, fun k hk => ?_⟩, hff⟩
  · rcases (hb k hk).2 with e | e
    · exact .inl e
    · exact .inr ⟨e, (hr2.lt k hk).2⟩
  · rcases hk with e | e
    · exact Nat.lt_of_lt_of_le (h.sl k e) hff.size
    · exact e.2
/-- An append to its row. -/
theorem RfW.grow (h : RfW w S p most q lv) {w2 : World} {v2 : Value} {o : Obj} (hg : (w.alloc o).grownBy w2 lv.ownBlock) (hat : v2.ownBlock = lv.ownBlock ∨ v2.ownBlock = some (w.heap.size + 1)) :
    w2.heap[p]? = some (.cells #[nI most, lv] TRf (0, 0)) ∧ ∀ k, v2.ownBlock = some k → k ≠ p ∧ (S k ∨ w.heap.size ≤ k) := by
  have hf : Fr (fun k => lv.ownBlock = some k) w w2 := ((Fr.refl _ w).alloc o).grown hg (fun k hk _ => hk)
  refine ⟨(hf.block p h.lt (fun e => h.ne e rfl)).trans h.hp, fun k hk => ?_⟩
  rcases hat with e | e
  · rw [e] at hk; exact ⟨h.ne hk, .inl (h.sr k hk)⟩
  · rw [e] at hk
    have := h.lt
    simp at hk
    exact ⟨by omega, .inr (by omega)⟩
/-- The same, seen from a world that has only been drawn from. -/
theorem RfW.to {w0 : World} {q2 : List Int} {v2 : Value} (h : RfW w' (exS S w w') p most q2 v2) (hf : Fr (fun _ => False) w0 w) : RfW w' (exS S w0 w') p most q2 v2 := by
  have he : ∀ k, exS S w w' k → exS S w0 w' k := fun k hk => by
    rcases hk with e | e
    · exact .inl e
    · exact .inr ⟨Nat.le_trans hf.size e.1, e.2⟩
  exact ⟨h.hp, h.row, h.ql, h.mx, he p h.sp, fun k hk => he k (h.sr k hk), fun k hk => by
    rcases hk with e | e
    · exact h.sl k (.inl e)
    · exact e.2⟩
theorem RfW.ex (h : RfW w S p most q lv) (hf : Fr (fun _ => False) w w') : RfW w' (exS S w w') p most q lv := by
  have h1 := h.fr hf (fun _ _ e => e)
  exact ⟨h1.hp, h1.row, h1.ql, h1.mx, .inl h1.sp, fun k hk => .inl (h1.sr k hk), fun k hk => by
    rcases hk with e | e
    · exact h1.sl k e
    · exact e.2⟩
end
def RfIn (S : Nat → Prop) (w : World) (v : Value) (most : Nat) (q : List Int) : Prop := ∃ p lv, v = .pointer (some ⟨p, 0, none⟩) ∧ RfW w S p most q lv
theorem RfIn.fr {S fp : Nat → Prop} {w w' : World} {v : Value} {most : Nat} {q : List Int} (h : RfIn S w v most q) (hf : Fr fp w w') (hd : ∀ k, S k → ¬ fp k) : RfIn S w' v most q := by
  obtain ⟨p, lv, rfl, h1⟩ := h
  exact ⟨p, lv, rfl, h1.fr hf hd⟩
/-- New. -/
theorem RfNew_any (w : World) (mo : Int) : Calls Try.prog 8 #[iv mo] w fun e w' => Below w.heap.size w w' ∧
    (if 1 ≤ mo ∧ mo ≤ 65536 then ∃ v S, e = .returned v ∧ (∀ b, S b → w.heap.size ≤ b) ∧ RfIn S w' v mo.toNat [] else e = .returned (.pointer none)) := by
  by_cases h1 : mo < 1
  · simp only [if_neg (show ¬ (1 ≤ mo ∧ mo ≤ 65536) by omega)]
    have d1 : decide (mo < 1) = true := by simpa using h1
    clear h1
    go_enter Try.func8, Try.ntmps8
    go_wp2
    go_ret
    exact ⟨Below.refl _ _, rfl⟩
  · have d1 : decide (mo < 1) = false := by simpa using h1
    by_cases h2 : 65536 < mo
    · simp only [if_neg (show ¬ (1 ≤ mo ∧ mo ≤ 65536) by omega)]
      have d2 : decide (65536 < mo) = true := by simpa using h2
      clear h1 h2
      go_enter Try.func8, Try.ntmps8
      go_wp2
      go_ret
      exact ⟨Below.refl _ _, rfl⟩
    · have d2 : decide (65536 < mo) = false := by simpa using h2
      simp only [if_pos (show 1 ≤ mo ∧ mo ≤ 65536 by omega)]
      have H1 := hid h1
      have H2 := hid h2
      clear h1 h2
      go_enter Try.func8, Try.ntmps8
      go_wp2
      go_ret
      have hb : Below w.heap.size w (w.alloc (.cells #[.int .i64 mo, .slice none 0 0] TRf)) := (Below.refl _ _).alloc (Nat.le_refl _) _
      have hm : ((mo.toNat : Nat) : Int) = mo := by have := H1.out; omega
      refine ⟨hb, _, rfl, fun k => k = w.heap.size, fun b hb => by rw [hb]; exact Nat.le_refl _, w.heap.size, .slice none 0 0, rfl, ?_⟩
      refine ⟨?_, World.ownsRow_nil _ _ _ _, Nat.zero_le _, by have := H2.out; omega, rfl, fun k hk => by simp [Value.ownBlock] at hk, fun k hk => by rw [hk]; simp⟩
      simp only [nI, hm]
      exact heap_alloc_new _ _
set_option maxHeartbeats 2000000 in
theorem RfIn.put {S : Nat → Prop} {w : World} {v : Value} {most : Nat} {q : List Int} (h : RfIn S w v most q) (x : Int) : Calls Try.prog 11 #[v, iv x] w fun e w' =>
    e = .returned (.bool (decide (q.length < most))) ∧ RfIn (exS S w w') w' v most (if q.length < most then q ++ [x] else q) ∧ Fr S w w' := by
  obtain ⟨p, lv, rfl, h1⟩ := h
  have c0 := h1.c0
  have c1 := h1.c1
  have hql := h1.ql
  have hmx := h1.mx
  obtain ⟨a, c, hlv⟩ := own_form h1.row
  rw [hlv] at c1
  have HH := hid h1
  have HLV := hid hlv
  obtain ⟨n, hn⟩ : ∃ n, n = q.length := ⟨_, rfl⟩
  rw [← hn] at c1 hql ⊢
  have HN := hid hn
  clear h1 hlv hn
  by_cases hlt : n < most
  · simp only [if_pos hlt, decide_eq_true hlt]
    have d1 : decide (most ≤ n) = false := by simpa using hlt
    go_enter Try.func11, Try.ntmps11
    go_upto_region 1 with fail
    go_quiet (fail)
    obtain ⟨wd, hwd⟩ : ∃ wd, wd = w.drewN nq := ⟨_, rfl⟩
    have hfd : Fr (fun _ => False) w wd := by rw [hwd]; exact (Fr.refl _ _).drewN _
    have hd := HH.out.fr hfd (fun _ _ e => e)
    have c1 := hd.c1
    have hrow := hd.row
    rw [HLV.out, ← HN.out] at c1 hrow
    rw [← hwd]
    have HD := hid hd
    have HFD := hid hfd
    have HR := hid (show wd.ownsRow 0 TI 1 (.slice a n c) q.length (q.map iv) by rw [← HN.out]; exact hrow)
    clear c0 hwd hfd hd hrow
    go_wp2_with (first
      | ((with_reducible refine at_op ⟨some 22, _, _, _, _, _⟩ ?_); go_loud (refine wpList_appZ rfl (.tmp 19) (.tmp 21) rfl 0 (.slice a n c) q [x] rfl (HR.out.alloc _) wd.heap.size 0 1 1 rfl rfl (fun j y hy => new_one wd x j y hy) (by have := HN.out; simp; omega) (Nat.zero_le _) ?_); intro v2 w2 k1 k2 k3; obtain ⟨ln, hln⟩ : ∃ ln, ln = (q ++ [x]).length := ⟨_, rfl⟩; rw [← hln] at k1; obtain ⟨va, vc, hv2⟩ := own_form k1; subst hv2; have HLN := hid hln; clear hln; obtain ⟨hp2, hb2⟩ := HD.out.grow (v2 := .slice va ln vc) (by rw [HLV.out, ← HN.out]; exact k2) (by rw [HLV.out, ← HN.out]; simpa using k3); have K1 := hid k1; have K2 := hid k2; have HB2 := hid hb2; have d2 := cell_of_row w2 p 1 _ _ _ hp2; have z2 := frozen_of_row w2 p 1 _ _ hp2; simp only [List.getElem?_toArray, List.getElem?_cons_succ, List.getElem?_cons_zero] at d2; have HP2 := hid hp2; clear k1 k2 k3 hp2 hb2 c1)
      | fail)
    go_ret
    have hk2 : (wd.alloc (.cells #[iv x] TI)).grownBy w2 lv.ownBlock := by rw [HLV.out, ← HN.out]; exact K2.out
    have hf2 : Fr S wd w2 := (((Fr.refl (fun k => lv.ownBlock = some k) wd).alloc _).grown hk2 (fun k hk _ => hk)).mono (fun k hk _ => HD.out.sr k hk)
    obtain ⟨h5, h6⟩ := HD.out.set hf2 HP2.out (q2 := q ++ [x]) (by rw [← HLN.out]; exact K1.out) (by rw [List.length_append, List.length_singleton, ← HN.out]; omega) HB2.out
    exact ⟨rfl, ⟨p, _, rfl, h5.to HFD.out⟩, (HFD.out.mono (fun _ e _ => e.elim)).trans h6 (fun k hk _ => hk)⟩
  · simp only [if_neg hlt, decide_eq_false hlt]
    have d1 : decide (most ≤ n) = true := by simp; omega
    go_enter Try.func11, Try.ntmps11
    go_upto_region 1 with fail
    go_quiet (fail)
    go_wp2
    go_ret
    exact ⟨rfl, ⟨p, lv, rfl, HH.out.ex ((Fr.refl _ _).drewN _)⟩, (Fr.refl _ _).drewN _⟩
theorem exec_tail {o : Oper} {f : Operand → Value} {W : World} {p : Operand} {b o2 n cap : Nat} (ho : o.op = .slice 22 p (some (.const (.int .i64 1))) none none) (hp : f p = .slice (some ⟨b, 0, none⟩) n cap) (hl : f (.const (.int .i64 1)) = .int .i64 1) (h1 : 1 ≤ n) (h2 : cap = 1 ∧ o2 = 0 ∨ ¬ cap = 1 ∧ o2 = 1) :
    (execOp f o).run Try.prog W = .ok (.value (.slice (some ⟨b, o2, none⟩) (n - 1) (cap - 1))) W := by
  unfold execOp
  simp only [ho, hp]
  simp only [Option.map, hl]
  rcases h2 with ⟨h3, rfl⟩ | ⟨h3, rfl⟩
  · go_simp
    intro h; omega
  · go_simp
    intro h; omega
set_option maxHeartbeats 2000000 in
theorem RfIn.take {S : Nat → Prop} {w : World} {v : Value} {most : Nat} {q : List Int} (h : RfIn S w v most q) : Calls Try.prog 13 #[v] w fun e w' =>
    e = .returned (.tuple #[iv (q.headD 0), .bool (decide (q ≠ []))]) ∧ RfIn (exS S w w') w' v most q.tail ∧ Fr S w w' := by
  obtain ⟨p, lv, rfl, h1⟩ := h
  cases q with
  | nil =>
    have c1 := h1.c1
    obtain ⟨a, c, hlv⟩ := own_form h1.row
    rw [hlv] at c1
    have HH := hid h1
    simp only [List.length_nil] at c1
    clear h1 hlv
    go_enter Try.func13, Try.ntmps13
    go_wp2
    go_ret2
    exact ⟨rfl, ⟨p, lv, rfl, HH.out.ex (Fr.refl _ _)⟩, Fr.refl _ _⟩
  | cons x q =>
    have c1 := h1.c1
    have z1 := h1.fz 1
    have hql := h1.ql
    have hmx := h1.mx
    obtain ⟨g, c, hlv, _, hgl⟩ := h1.row.form (by simp)
    have hrow := h1.row
    rw [hlv] at c1 hrow
    have e0 : w.cell? ⟨g, 0, none⟩ = some (iv x) := by rw [hrow.cellAt 0 (by simp)]; rfl
    obtain ⟨n, hn⟩ : ∃ n, n = q.length := ⟨_, rfl⟩
    have hlen : (x :: q).length = n + 1 := by rw [List.length_cons, hn]
    rw [hlen] at c1 hrow hql
    have hcap := own_cap hrow
    obtain ⟨o2, ho2⟩ : ∃ o2, c = 1 ∧ o2 = 0 ∨ ¬ c = 1 ∧ o2 = 1 := by
      by_cases hc : c = 1
      · exact ⟨0, .inl ⟨hc, rfl⟩⟩
      · exact ⟨1, .inr ⟨hc, rfl⟩⟩
    have hcs : ∀ (j : Nat) y, q[j]? = some y → w.cell? ⟨g, o2 + j, none⟩ = some (iv y) := fun j y hy => by
      have hj := (List.getElem?_eq_some_iff.1 hy).1
      have : o2 = 1 := by rcases ho2 with ⟨e, _⟩ | ⟨_, e⟩ <;> omega
      rw [this, hrow.cellAt (1 + j) (by omega), List.getElem?_map, Nat.add_comm 1 j, List.getElem?_cons_succ, hy]
      rfl
    have HH := hid h1
    have HN := hid hn
    have HCS := hid hcs
    have HO2 := hid ho2
    have hcz : ((n : Int) + 1 == 0) = false := by simp; omega
    have hcz2 : ¬ ((n : Int) + 1 = 0) := by omega
    clear h1 hlv hrow hn hlen hcs ho2
    go_enter Try.func13, Try.ntmps13
    go_wp2_with (first
      | ((with_reducible refine at_op ⟨some 23, _, _, _, _, _⟩ ?_); go_loud (refine wpList_runN rfl _ _ (exec_tail rfl rfl rfl (by omega) HO2.out) ?_))
      | ((with_reducible refine at_op ⟨some 24, _, _, _, _, _⟩ ?_); go_loud (refine wpList_appZ rfl (.tmp 18) (.tmp 23) rfl w.heap.size (.slice none 0 0) [] q rfl (World.ownsRow_nil _ _ _ _) g o2 _ _ rfl (by rw [← HN.out]; omega) HCS.out (by have := HN.out; simp; omega) (Nat.le_refl _) ?_); intro v2 w2 k1 k2 k3; rw [List.nil_append, ← HN.out] at k1; obtain ⟨va, vc, hv2⟩ := own_form k1; subst hv2; have hp2 := (k2.block p HH.out.lt (by simp [Value.ownBlock])).trans HH.out.hp; have K1 := hid k1; have K2 := hid k2; have d2 := cell_of_row w2 p 1 _ _ _ hp2; have z2 := frozen_of_row w2 p 1 _ _ hp2; simp only [List.getElem?_toArray, List.getElem?_cons_succ, List.getElem?_cons_zero] at d2; have HP2 := hid hp2; clear k1 k2 k3 hp2 c1 z1 e0)
      | fail)
    go_ret2
    have hf2 : Fr S w w2 := (Fr.refl S w).grown K2.out (fun k hk _ => by simp [Value.ownBlock] at hk)
    obtain ⟨h5, h6⟩ := HH.out.set hf2 HP2.out (q2 := q) (by rw [← HN.out]; exact own_base (Nat.zero_le _) K1.out) (by rw [← HN.out]; omega) (fun k hk => by have := (K1.out.lt k hk).1; have := HH.out.lt; exact ⟨by omega, .inr (by omega)⟩)
    exact ⟨rfl, ⟨p, _, rfl, h5⟩, h6⟩
end Go.Proofs.Ytmkajdfajcodjab
