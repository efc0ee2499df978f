/-
  A frame's Stack: what it tells; the law's helper that collects it.
-/
import Derived.Test.YtcoclaabainibaaDoorFmH
import Derived.Test.YtcoclaabainibaaDoorMemX
import Derived.Test.YtcoclaabainibaaDoorMixG
import Derived.Sort.CutIn
import Derived.Sort.QuietIn
namespace Go.Proofs.YtcoclaabainibaaDoor
open Go Go.ChangeShapes Go.WideShapes Go.ChangeAt Go.RowKit Go.Shelf
attribute [local go_sem] Oper.semAt_some

/-- append, and where the row lies behind it. -/
theorem wpListIn_appAt {F : Fence} {n : Nat} {P : Program} (w : World) {ops : Array Oper} {rest : List Oper} {o : Oper} {a : Act} {Q : Exit → Act → World → Prop}
    (hg : o.guard = none) (s x : Operand) (t : TypeId) (hop : o.op = Op.call { callee := Callee.builtin Builtin.append, args := #[s, x], argTypes := #[t, t] })
    (base : Nat) (e : TypeId) (i : TypeInfo) (z : Value) (size bytes : Nat) (h1 : P.underlying t = some (.slice e)) (h2 : P.info? e = some i) (h3 : i.zero = some z) (h4 : i.size = size) (h5 : i.bytes = bytes) (h6 : z.cells.size = size) (h7 : 0 < size)
    (v : Value) (k : Nat) (xs : List Value) (hs : a.eval s = v) (hown : w.ownsRow base e size v k xs) (ad : Addr) (m c : Nat) (news : List Value) (hx : a.eval x = .slice (some ad) m c) (hn : news.length = m * size)
    (hc : ∀ j u, news[j]? = some u → w.cell? (ad.add j) = some u) (h1c : ∀ u ∈ news, u.oneCell' = true) (b1 : k + m ≤ maxLen) (b2 : (k + m) * bytes ≤ 140737488355328) (b3 : base ≤ w.heap.size)
    (hK : ∀ v' w', w'.ownsRow base e size v' (k + m) (xs ++ news) → w.grownBy w' v.ownBlock → (v'.ownBlock = v.ownBlock ∨ v'.ownBlock = some w.heap.size) → wpListIn F n P ops Q rest (a.put o.dst v') w') :
    wpListIn F n P ops Q (o :: rest) a w := by
  refine wpListIn_plain hg fun K hK' => ?_
  obtain ⟨v', w', hrun, r1, r2, _, r4⟩ := run_append_own_at (P := P) (w := w) base t o.type e i z size bytes h1 h2 h3 h4 h5 h6 h7 v k xs hown ad m c news hn hc h1c b1 b2 b3
  unfold Oper.wpIn
  refine ⟨?_, ?_⟩
  · simp [Oper.about, hop, resolve, Target.leads, Sem.run_pure]
  · rw [Oper.semAt_plain F _ _ (by rw [hop]; intro c hc'; cases hc')]
    simp [execOp, hop, resolve, invoke, builtin, hs, hx, hrun, Result.andThen]
    exact hK' _ _ (hK v' w' r1 r2 r4)
/-- What is asked of a frame whose stack is read; nil too. -/
def StQ (w : World) (v : Value) (st : List Int) : Prop := (v = .pointer none ∧ st = []) ∨ ∃ p S f qv sv, v = .pointer (some ⟨p, 0, none⟩) ∧ FmW w S p f qv sv ∧ st = f.st
theorem StQ.no {w w' : World} {v : Value} {st : List Int} (h : StQ w v st) (hf : Fr (fun _ => False) w w') : StQ w' v st := by
  rcases h with h | ⟨p, S, f, qv, sv, h1, h2, h3⟩
  · exact .inl h
  · exact .inr ⟨p, S, f, qv, sv, h1, h2.no hf, h3⟩
theorem numbers_any {w : World} {v : Value} {st : List Int} (h : StQ w v st) (hl : st.length ≤ 1000) : Calls Tryd.prog 29 #[v] w fun e w' => ∃ u, e = .returned u ∧ RowL w st u w' := by
  rcases h with ⟨rfl, rfl⟩ | ⟨p, S, f, qv, sv, rfl, h, rfl⟩
  · go_enter Tryd.func29, Tryd.ntmps29
    go_wp2
    go_ret
    exact ⟨_, rfl, World.ownsRow_nil _ _ _ _, Below.refl _ _⟩
  · have c3 := h.c3
    have HC := hid (CloneL_any w sv f.st (own_told h.row) (by omega))
    clear h hl
    go_enter Tryd.func29, Tryd.ntmps29
    go_wp2_with (first
      | (go_at_call 35; refine HC.out.mono ?_; rintro e w2 ⟨u, rfl, hu⟩; have HU := hid hu; clear hu)
      | fail)
    go_ret
    exact ⟨_, rfl, HU.out⟩
def encL (x : Int) : Array Value := #[iv x]
/-- Blocks of the iterator's own. -/
def OkT (t : Nat → Prop) (W W' : World) : Prop := Below W.heap.size W W' ∧ ∀ k, t k → W.heap.size ≤ k ∧ k < W'.heap.size
def KpT (t : Nat → Prop) (W W' : World) : Prop := KS t W W'
theorem roundIn_wide2 {n m : Nat} {P : Program} {l : Nat} {f : FuncId} {tmps : Array Value} {assign body : Code} {w : World} {R : Ending → World → Prop} (h : RoundIn Fence.wide n P l f tmps assign body w R) : RoundIn Fence.wide m P l f tmps assign body w R :=
  ⟨h.1, fun c cs _ => h.2 c cs (room_wide _)⟩
theorem round_inR {n : Nat} {P : Program} {l : Nat} {f : FuncId} {tmps : Array Value} {assign body : Code} {w : World} {R : Ending → World → Prop} (lo : Nat) (h : RoundIn Fence.wide n P l f tmps assign body w R) : RoundIn (Fence.wide.inRound lo) n P l f tmps assign body w R := h
def PartPost {α κ : Type} (J : κ → List α → World → Prop) (Jx : List α → World → Prop) (xs : List α) (e : Ending) (W' : World) : Prop := (∃ v, e = .returned v) ∧ ((∃ t, J t xs W') ∨ (∃ pre, pre <+: xs ∧ Jx pre W'))
/-- A range's own row stays, over a round. -/
theorem kp_own {t : Nat → Prop} {W W' : World} {B g c n : Nat} {T : TypeId} {xs : List Value} (hk : KpT t W W') (ht : t g) (h : W.ownsRow B T 1 (.slice (some ⟨g, 0, none⟩) n c) n xs) : W'.ownsRow B T 1 (.slice (some ⟨g, 0, none⟩) n c) n xs := by
  refine ⟨h.1, ?_⟩
  rcases h.2 with ⟨e, _⟩ | ⟨g', cap, cur, e, hb, hg, rest⟩
  · cases e
  · cases e
    exact .inr ⟨g, c, cur, rfl, hb, hk _ _ _ _ ht hg, rest⟩
theorem Stack_any (w : World) (v : Option Addr) : Calls Tryd.prog 25 #[.pointer v] w fun e w' => e = .returned (.func (.func 28) #[] #[.pointer (some ⟨w.heap.size, 0, none⟩)]) ∧ w' = w.alloc (.cells #[.pointer v] 25) := by
  go_enter Tryd.func25, Tryd.ntmps25
  go_wp2
  go_ret
  exact ⟨rfl, rfl⟩
set_option maxRecDepth 100000 in
set_option maxHeartbeats 4000000 in
theorem stack_tells (n b : Nat) {w : World} {v : Value} {l : List Int} (hb : Boxed w b 25 v) (h : StQ w v l) (h8 : l.length ≤ 1000) :
    TellsX Fence.wide n Tryd.prog 28 #[.pointer (some ⟨b, 0, none⟩)] encL OkT KpT (fun _ _ => True) l w := by
  intro lp J Jx W hW hJ hJx _ _ hY hOk
  show CallsIn Fence.wide n Tryd.prog 28 #[.func (.yield lp) #[] #[], .pointer (some ⟨b, 0, none⟩)] W (PartPost J Jx l)
  have d1 : W.cell? ⟨b, 0, none⟩ = some v := Boxed.cell ((hW.block b hb.lt).trans hb)
  have HROWC := hid (numbers_any (h.no (Fr.of_below hW)) h8)
  have HY := hid hY
  have HJJ := hid hJ
  have HJX := hid hJx
  have HOK := hid hOk
  obtain ⟨N, hN⟩ : ∃ N, N = l.length := ⟨_, rfl⟩
  rw [← hN] at h8
  have HN := hid hN
  clear hY hJ hJx hOk h hb hW hN
  refine callsIn_of_wp Tryd.func28 rfl trivial ?_ rfl
  simp only [Tryd.ntmps28, List.size_toArray, List.length_cons, List.length_nil, Nat.reduceAdd, Nat.reduceSub, Array.replicate_succ, Array.replicate_zero, List.push_toArray, List.append_toArray, List.nil_append, List.cons_append]
  gi_wp2
  refine ⟨trivial, (fun h => by cases h), (callsIn_wide.2 HROWC.out).mono ?_⟩
  rintro e W1 ⟨v1, rfl, hrow, hbl⟩
  rw [← HN.out] at hrow
  obtain ⟨ra, rc, rfl⟩ := own_form hrow
  obtain ⟨t, ht⟩ : ∃ t : Nat → Prop, t = fun k => (Value.slice ra N rc).ownBlock = some k := ⟨_, rfl⟩
  have hOk1 : OkT t W W1 := ⟨hbl, fun k hk => by rw [ht] at hk; exact hrow.lt k hk⟩
  have J0 := hid (HOK.out t W1 hOk1)
  have HT := hid ht
  have HROW := hid hrow
  clear hrow hbl ht hOk1 HROWC d1
  gi_wp2
  gi_loopw [8] (fun i wr => ∃ q : Nat, q ≤ N ∧ i = .int .i64 q ∧ RowKit.Hid (J t (l.take q) wr) ∧ RowKit.Hid (wr.ownsRow W.heap.size TL 1 (.slice ra N rc) N (l.map iv))) (fun i _ => N - (intOf i).toNat)
  case atStart => exact ⟨0, Nat.zero_le _, rfl, hid (by simpa using J0.out), HROW⟩
  case round =>
    obtain ⟨q, hq, rfl, HJq, HRq⟩ := hrel
    by_cases hql : q < N
    · have hqL : q < l.length := by rw [← HN.out]; exact hql
      have hs : l[q]? = some l[q] := List.getElem?_eq_getElem hqL
      generalize l[q] = x at hs
      obtain ⟨g, k', hvf, _⟩ := HRq.out.form (by omega)
      simp only [Value.slice.injEq] at hvf
      obtain ⟨rfl, -, rfl⟩ := hvf
      have m0 : wr.cell? ⟨g, q, none⟩ = some (iv x) := by rw [HRq.out.cellAt _ (by omega), List.getElem?_map, hs]; rfl
      have hz : l.take (q + 1) = l.take q ++ [x] := by rw [List.take_add_one, hs]; rfl
      have hpx : l.take q ++ [x] <+: l := by rw [← hz]; exact List.take_prefix _ _
      obtain ⟨fn, tmps, assign, body, hy, hRd⟩ := HY.out t _ x wr HJq.out hpx
      simp only [encL] at hy
      have HRD := hid hRd
      have HZ := hid hz
      have HPX := hid hpx
      clear hRd hz hpx hs hqL
      gi_wp2
      refine ⟨(fun h => by cases h), HRD.out.mono ?_⟩
      rintro e W4 (⟨rfl, hJ4, hk4, _⟩ | ⟨rfl, hJx4, _⟩)
      · have J4 := hid hJ4
        have R4 := hid (kp_own hk4 (by rw [HT.out]; rfl) HRq.out)
        clear hJ4 hk4
        gi_wp2
        go_roundw
        case rel => exact ⟨q + 1, by omega, by go_num, by rw [HZ.out]; exact J4, R4⟩
        case measure => simp [intOf]; omega
      · have J4 := hid hJx4
        clear hJx4
        gi_wp2
        refine bodyPost_ret (results_none rfl _ _ _) rfl ?_
        exact ⟨⟨_, rfl⟩, .inr ⟨_, HPX.out, J4.out⟩⟩
    · obtain rfl : q = N := by omega
      have hall : l.take q = l := List.take_of_length_le (by rw [← HN.out]; exact Nat.le_refl _)
      have HA := hid hall
      clear hall
      gi_wp2
      go_end0
      exact ⟨⟨_, rfl⟩, .inl ⟨t, by have := HJq.out; rw [HA.out] at this; exact this⟩⟩
theorem seqR_not_nil (f : Nat) (fv : Array Value) (W : World) : (binOp .neq 64 (.func (.func f) #[] fv) .nilFunc).run Tryd.prog W = .ok (.bool true) W := by kernel_rfl
/-- Between two rounds: the row in its box. -/
structure LR (w : World) (n0 : Nat) (m : Int) (t : Nat → Prop) (pre : List Int) (u : Value) (W : World) : Prop where
  b0 : Boxed W w.heap.size 3 (.int .i64 m)
  b1 : Boxed W (w.heap.size + 1) 23 u
  r1 : W.ownsRow n0 TL 1 u pre.length (pre.map iv)
  ml : (pre.length : Int) ≤ m
  below : Below w.heap.size w W
  sz : n0 ≤ W.heap.size
  tt : ∀ k, t k → n0 ≤ k ∧ k < W.heap.size ∧ u.ownBlock ≠ some k
theorem LR.kept {w : World} {n0 : Nat} {m : Int} {t : Nat → Prop} {pre : List Int} {u : Value} {W W' : World} {row : Option Nat} (h : LR w n0 m t pre u W) (hg : W.grownBy W' row) (hr : ∀ r, row = some r → w.heap.size ≤ r ∧ ∃ o : Obj, W.heap[r]? = some o ∧ o.isCells = false) : LR w n0 m t pre u W' :=
  have hr' := fun r e => (hr r e).2
  ⟨h.b0.kept hg (not_cells h.b0 hr'), h.b1.kept hg (not_cells h.b1 hr'), owns_not_cells h.r1 hg hr', h.ml, h.below.grown hg h.below.size (fun k e => (hr k e).1), Nat.le_trans h.sz hg.size, fun k hk => ⟨(h.tt k hk).1, Nat.lt_of_lt_of_le (h.tt k hk).2.1 hg.size, (h.tt k hk).2.2⟩⟩
/-- Where it was left. -/
def LRx (w : World) (n0 : Nat) (m : Int) (c : Code) (pre : List Int) (W : World) : Prop := c = .exit 0 ∧ ∃ t pre1 x lv, pre = pre1 ++ [x] ∧ (pre1.length : Int) = m ∧ LR w n0 m t pre1 lv W
def RowTold (w : World) (l : List Int) (e : Ending) (w' : World) : Prop := Below w.heap.size w w' ∧ ∃ v, e = .returned v ∧ Tl iv w'.heap.size w' v l
set_option maxRecDepth 100000 in
set_option maxHeartbeats 4000000 in
theorem stack_in (n : Nat) (hn : 5 ≤ n) {w : World} {a : Option Addr} {q : List Int} (h : StQ w (.pointer a) q) (h8 : q.length ≤ 1000) (m : Nat) (hm : m ≤ 100000) :
    CallsIn Fence.wide n Tryd.prog 15 #[.pointer a, .int .i64 m] w (RowTold w (q.take m)) := by
  have h1 : 1 ≤ n := by omega
  obtain ⟨i0, hi, hz0, hz1, hz2⟩ := info_split infoL
  obtain ⟨mi, hmi⟩ : ∃ mi : Int, mi = (m : Int) := ⟨_, rfl⟩
  rw [← hmi]
  have hmi2 : 0 ≤ mi ∧ mi ≤ 100000 := by omega
  obtain ⟨w1, hw1⟩ : ∃ w1, w1 = (w.alloc (.cells #[.int .i64 mi] 3)).alloc (.cells #[.slice none 0 0] 23) := ⟨_, rfl⟩
  have hb1 : Below w.heap.size w w1 := by rw [hw1]; exact ((Below.refl _ _).alloc (Nat.le_refl _) _).alloc (by simp) _
  have hsz1 : w1.heap.size = w.heap.size + 2 := by rw [hw1]; simp
  have b0 := (Boxed.new w 3 (.int .i64 mi)).alloc (.cells #[.slice none 0 0] 23)
  have b1 := Boxed.new (w.alloc (.cells #[.int .i64 mi] 3)) 23 (.slice none 0 0)
  simp only [World.size_alloc] at b1
  rw [← hw1] at b0 b1
  have HM := hid hmi
  clear hmi hm
  have HQ := hid h
  have HB0 := hid b0
  have HB1 := hid b1
  have HBW := hid hb1
  have HW1 := hid hw1
  have HZ1 := hid hsz1
  clear b0 b1 hb1 hw1 hsz1 h
  refine callsIn_of_wp_marks Tryd.func15 rfl trivial ?_ rfl
  simp only [Tryd.ntmps15, List.size_toArray, List.length_cons, List.length_nil, Nat.reduceAdd, Nat.reduceSub, Array.replicate_succ, Array.replicate_zero, List.push_toArray, List.append_toArray, List.nil_append, List.cons_append]
  have hq := seqR_not_nil
  gi_wp2
  rw [← HW1.out]
  first
    | refine ⟨trivial, (fun h => by cases h), (callsIn_wide.2 (Stack_any _ _)).mono ?_⟩
    | refine ⟨trivial, (callsIn_wide.2 (Stack_any _ _)).mono ?_⟩
    | refine (callsIn_wide.2 (Stack_any _ _)).mono ?_
  rintro e w2 ⟨rfl, hw2⟩
  have hb2 : Below w1.heap.size w1 w2 := by rw [hw2]; exact (Below.refl _ _).alloc (Nat.le_refl _) _
  have hbw := HBW.out.trans (hb2.mono HBW.out.size)
  have hsz : w.heap.size + 2 ≤ w2.heap.size := by have := hb2.size; rw [HZ1.out] at this; exact this
  obtain ⟨b, hb⟩ : ∃ b, b = w1.heap.size := ⟨_, rfl⟩
  rw [← hb]
  have hbx : Boxed w2 b 25 (.pointer a) := by rw [hw2, hb]; exact Boxed.new _ _ _
  have hb2s : Boxed w2 (w.heap.size + 1) 23 (.slice none 0 0) := (hb2.block _ HB1.out.lt).trans HB1.out
  have hLK : ∀ t W, (∀ k, t k → w2.heap.size ≤ k ∧ k < W.heap.size) → Below w2.heap.size w2 W → LR w w2.heap.size mi t [] (.slice none 0 0) W := fun t W h1 h3 =>
    ⟨(h3.block _ (by have := HB0.out.lt; have := hb2.size; omega)).trans ((hb2.block _ HB0.out.lt).trans HB0.out), (h3.block _ hb2s.lt).trans hb2s, World.ownsRow_nil _ _ _ _, by simpa using hmi2.1, hbw.trans (h3.mono hbw.size), h3.size, fun k hk => ⟨(h1 k hk).1, (h1 k hk).2, by simp [Value.ownBlock]⟩⟩
  have HST := hid (stack_tells (n := n - 1) b hbx (HQ.out.no (Fr.of_below hbw)) h8)
  have HLK := hid hLK
  have HZ := hid hsz
  clear hLK hbw hb2s hb2 HW1 HB0 HB1 hsz hw2 hb hbx HQ
  gi_wp2
  clear hq
  refine rangeFunc_x rfl h1 (gf := 28) (lb := #[.pointer (some ⟨b, 0, none⟩)]) rfl trivial (enters_of Tryd.func28 (by kernel_rfl) rfl)
    HST.out (fun _ _ _ h => h.1) (fun _ {A B C} h k => KS.t h k) (fun _ W l o o' _ h2 h3 _ => KS.b _ W l o o' h2 h3) (fun _ => rfl)
    (fun t pre Wc => ∃ lv, LR w w2.heap.size mi t pre lv Wc) (LRx w w2.heap.size mi)
    (fun _ _ _ _ _ ⟨lv, h⟩ hg hr => ⟨lv, h.kept hg (fun r e => ⟨by have := (hr r e).1; have := HZ.out; omega, (hr r e).2⟩)⟩)
    (fun _ _ _ _ _ ⟨hc, t, p1, x, lv, h1, h2, h3⟩ hg hr => ⟨hc, t, p1, x, lv, h1, h2, h3.kept hg (fun r e => ⟨by have := (hr r e).1; have := HZ.out; omega, (hr r e).2⟩)⟩)
    (fun _ _ _ _ => trivial) (fun _ _ => trivial) (fun t W1 W hb _ ⟨h3, h1⟩ => ⟨_, HLK.out t W (fun k hk => ⟨Nat.le_trans hb.size (h1 k hk).1, (h1 k hk).2⟩) (hb.trans (h3.mono hb.size))⟩)
    (fun t pre x a' Wc => ∃ lv, LR w w2.heap.size mi t pre lv Wc ∧ a' = { tmps := #[.pointer a, .int .i64 mi, undef, .pointer (some ⟨w.heap.size, 0, none⟩), .slice none 0 0, .pointer (some ⟨w.heap.size + 1, 0, none⟩), .func (.func 28) #[] #[.pointer (some ⟨b, 0, none⟩)], iv x, .pointer a, .func (.func 28) #[] #[.pointer (some ⟨b, 0, none⟩)], .func (.func 28) #[] #[.pointer (some ⟨b, 0, none⟩)], .bool true, .func (.func 28) #[] #[.pointer (some ⟨b, 0, none⟩)], iv x, undef, undef, undef, undef, undef, undef, undef, undef, undef], defers := [] })
    (fun _ pre x a' _ X Y row hs hg hr => by
      obtain ⟨lv, e0, e3⟩ := hs
      exact ⟨lv, e0.kept hg (fun r e => ⟨by have := (hr r e).1; have := HZ.out; omega, (hr r e).2⟩), e3⟩)
    ?assignrow ?bodyrow ?donerow ?stoprow
  case assignrow =>
    rintro lo t pre x Wc K ⟨lv, hci⟩ _ hK
    simp only [encL]
    have HCI := hid hci
    have HKK := hid hK
    clear hci hK
    gi_wp2
    exact HKK.out _ _ (KeepsFrom.refl _ _) (KS.refl _ Wc) ⟨lv, HCI.out, rfl⟩
  case bodyrow =>
    rintro lo t pre x a' Wc hl ⟨r, hr⟩ hpx ⟨lv, H, rfl⟩
    have e0 := H.b0.cell
    have e1 := H.b1.cell
    have f1 := H.b1.frozen
    have hml := H.ml
    obtain ⟨la, lk, rfl⟩ := own_form H.r1
    have HH := hid H
    obtain ⟨N, hN⟩ : ∃ N, N = pre.length := ⟨_, rfl⟩
    have HN := hid hN
    rw [← hN] at e1 hml
    clear H hl hr hN hpx
    by_cases hfull : (N : Int) = mi
    · have hge : decide (mi ≤ (N : Int)) = true := by simp; omega
      have HF := hid hfull
      clear hfull
      gi_wp2
      exact ⟨KeepsFrom.refl _ _, rfl, t, pre, _, _, rfl, by rw [← HN.out]; exact HF.out, HH.out⟩
    · have hge : decide (mi ≤ (N : Int)) = false := by simp; omega
      have hlt : (N : Int) < mi := by omega
      clear hfull
      have H := HH.out
      have hsz := H.sz
      have hzz := HZ.out
      have hrow := H.r1
      rw [← HN.out] at hrow
      have hbx := H.b1
      rw [← HN.out] at hbx
      have HROW := hid hrow
      have HBX := hid hbx
      clear hrow hbx
      gi_wp2_with (first
        | (gi_at_builtin; refine wpListIn_appAt _ rfl _ _ 23 rfl w2.heap.size TL i0 (.int .i64 0) 1 8 Tryd.underlying23 hi hz0 hz1 hz2 rfl (by decide) _ _ _ rfl (HROW.out.alloc _) ⟨Wc.heap.size, 0, none⟩ 1 1 [iv x] rfl rfl (World.news_of_block (heap_alloc_new Wc _)) (by simp [Value.oneCell']) (by simp only [maxLen]; omega) (by omega) (by simp; omega) ?_; intro v' w3 hown' hgrow hat; obtain ⟨g', cap', rfl⟩ := ownsRow_succ hown'; obtain ⟨p1, p2, p3, p4, p5, p6, p7⟩ := box_push HBX.out (by decide) HROW.out hown' hgrow; have hc1 := p1.cell; have hf1 := p1.frozen))
      have htt := H.tt
      rw [← HN.out] at htt
      refine ⟨p4.from _, ?_, _, p7 _ _ _ H.b0 (by omega) (by omega), p2, ?_, ?_, H.below.trans (p6 _ (by omega) (by omega) H.below.size), Nat.le_trans hsz p4.size, fun k hk => ⟨(htt k hk).1, Nat.lt_of_lt_of_le (htt k hk).2.1 p4.size, ?_⟩⟩
      · exact (((KS.refl _ Wc).alloc _).grown hgrow (fun k ek e2 => (htt k e2).2.2 ek)).set _ _ (fun e => by have h5 : w2.heap.size ≤ w.heap.size + 1 := (htt _ e).1; omega)
      · have h7 : (pre ++ [x]).map iv = pre.map iv ++ [iv x] := by simp
        rw [List.length_append, List.length_singleton, ← HN.out, h7]; exact p3
      · rw [List.length_append, List.length_singleton, ← HN.out]; omega
      · intro e
        rcases hat with e2 | e2
        · rw [e] at e2; exact (htt k hk).2.2 e2.symm
        · rw [e] at e2; have := (htt k hk).2.1; simp at e2; omega
  case donerow =>
    rintro D t Wc hD ⟨lv, H⟩ hK
    have e1 := H.b1.cell
    have HH := hid H
    clear H
    gi_wp2
    refine ⟨by simp, .inl ⟨_, _, rfl, run_takeDeferred hK, ?_⟩⟩
    have H2 := HH.out.kept (grownBy_putObj' Wc D (.deferred none)) (fun r e => by cases e; exact ⟨by have := HZ.out; omega, _, hK, rfl⟩)
    refine ⟨_, results_tmp rfl _ _ _, H2.below, lv, rfl, ?_⟩
    have ht := own_told H2.r1
    have hml := H2.ml
    rw [List.take_of_length_le (by have := HM.out; omega)]
    exact ht
  case stoprow =>
    rintro D c pre Wc hD hp ⟨rfl, t, p1, x, lv, rfl, hm, H⟩ hK
    have e1 := H.b1.cell
    have HH := hid H
    have HS := hid hp
    have HMM := hid hm
    clear H hp hm
    gi_wp2
    refine ⟨by simp, .inl ⟨_, _, rfl, run_takeDeferred hK, ?_⟩⟩
    have H2 := HH.out.kept (grownBy_putObj' Wc D (.deferred none)) (fun r e => by cases e; exact ⟨by have := HZ.out; omega, _, hK, rfl⟩)
    refine ⟨_, results_tmp rfl _ _ _, H2.below, lv, rfl, ?_⟩
    have ht := own_told H2.r1
    have hlen : p1.length = m := by have := HM.out; have := HMM.out; omega
    have hpr := List.prefix_iff_eq_take.1 ((List.prefix_append p1 [x]).trans HS.out)
    have h9 : p1 = q.take m := by rw [← hlen]; exact hpr
    rw [h9] at ht
    exact ht
theorem stack_told {w : World} {v : Value} {q : List Int} (h : StQ w v q) (h8 : q.length ≤ 1000) (m : Nat) (hm : m ≤ 100000) : Calls Tryd.prog 15 #[v, .int .i64 m] w (RowTold w (q.take m)) := by
  have hv : ∃ a, v = .pointer a := by
    rcases h with ⟨e, _⟩ | ⟨p, _, _, _, _, e, _⟩
    · exact ⟨_, e⟩
    · exact ⟨_, e⟩
  obtain ⟨a, rfl⟩ := hv
  exact (callsIn_wide (n := 5)).1 (stack_in 5 (by omega) h h8 m hm)
end Go.Proofs.YtcoclaabainibaaDoor
