/-
  The law's helper that collects who is in it.
-/
import Derived.Test.YtbdhjkdojgdhbaaLsS
import Derived.Test.YtbdhjkdojgdhbaaHpS
import Derived.Test.YtbdhjkdojgdhbaaMemX
import Derived.Test.YtbdhjkdojgdhbaaRng
import Derived.Sort.CutIn
import Derived.Sort.QuietIn
namespace Go.Proofs.Ytbdhjkdojgdhbaa
open Go Go.ChangeShapes Go.WideShapes Go.ChangeAt Go.RowKit Go.Shelf
attribute [local go_sem] Oper.semAt_some

/-- append, and where the row lies behind it. -/
theorem wpListIn_appAt {F : Fence} {n : Nat} {P : Program} (w : World) {ops : Array Oper} {rest : List Oper} {o : Oper} {a : Act} {Q : Exit → Act → World → Prop}
    (hg : o.guard = none) (s x : Operand) (t : TypeId) (hop : o.op = Op.call { callee := Callee.builtin Builtin.append, args := #[s, x], argTypes := #[t, t] })
    (base : Nat) (e : TypeId) (i : TypeInfo) (z : Value) (size bytes : Nat) (h1 : P.underlying t = some (.slice e)) (h2 : P.info? e = some i) (h3 : i.zero = some z) (h4 : i.size = size) (h5 : i.bytes = bytes) (h6 : z.cells.size = size) (h7 : 0 < size)
    (v : Value) (k : Nat) (xs : List Value) (hs : a.eval s = v) (hown : w.ownsRow base e size v k xs) (ad : Addr) (m c : Nat) (news : List Value) (hx : a.eval x = .slice (some ad) m c) (hn : news.length = m * size)
    (hc : ∀ j u, news[j]? = some u → w.cell? (ad.add j) = some u) (h1c : ∀ u ∈ news, u.oneCell' = true) (b1 : k + m ≤ maxLen) (b2 : (k + m) * bytes ≤ 140737488355328) (b3 : base ≤ w.heap.size)
    (hK : ∀ v' w', w'.ownsRow base e size v' (k + m) (xs ++ news) → w.grownBy w' v.ownBlock → (v'.ownBlock = v.ownBlock ∨ v'.ownBlock = some w.heap.size) → wpListIn F n P ops Q rest (a.put o.dst v') w') :
    wpListIn F n P ops Q (o :: rest) a w := by
  refine wpListIn_plain hg fun K hK' => ?_
  obtain ⟨v', w', hrun, r1, r2, _, r4⟩ := run_append_own_at (P := P) (w := w) base t o.type e i z size bytes h1 h2 h3 h4 h5 h6 h7 v k xs hown ad m c news hn hc h1c b1 b2 b3
  unfold Oper.wpIn
  refine ⟨?_, ?_⟩
  · simp [Oper.about, hop, resolve, Target.leads, Sem.run_pure]
  · rw [Oper.semAt_plain F _ _ (by rw [hop]; intro c hc'; cases hc')]
    simp [execOp, hop, resolve, invoke, builtin, hs, hx, hrun, Result.andThen]
    exact hK' _ _ (hK v' w' r1 r2 r4)
def encO (x : On) : Array Value := #[.int .u64 x.1, iv x.2]
/-- Blocks of the iterator's own. -/
def OkT (t : Nat → Prop) (W W' : World) : Prop := Below W.heap.size W W' ∧ ∀ k, t k → W.heap.size ≤ k ∧ k < W'.heap.size
def KpT (t : Nat → Prop) (W W' : World) : Prop := KS t W W'
/-- The program's All tells l, from here on. -/
structure AllT (w : World) (a : Option Addr) (l : List On) : Prop where
  all : ∀ w1, Below w.heap.size w w1 → Calls Try.prog 28 #[.pointer a] w1 fun e w2 => e = .returned (.func (.func 31) #[] #[.pointer (some ⟨w1.heap.size, 0, none⟩)]) ∧ w2 = w1.alloc (.cells #[.pointer a] 23)
  tells : ∀ w2 b n, Below w.heap.size w w2 → w.heap.size ≤ b → Boxed w2 b 23 (.pointer a) → 4 ≤ n → TellsX Fence.wide n Try.prog 31 #[.pointer (some ⟨b, 0, none⟩)] encO OkT KpT (fun _ _ => True) l w2
theorem seqO_not_nil (f : Nat) (fv : Array Value) (W : World) : (binOp .neq 61 (.func (.func f) #[] fv) .nilFunc).run Try.prog W = .ok (.bool true) W := by kernel_rfl
/-- Between two rounds: the row in its box. -/
structure LOn (w : World) (n0 : Nat) (m : Int) (t : Nat → Prop) (pre : List On) (u : Value) (W : World) : Prop where
  b0 : Boxed W w.heap.size 3 (.int .i64 m)
  b1 : Boxed W (w.heap.size + 1) TSO u
  r1 : W.ownsRow n0 TOn 2 u pre.length (onv pre)
  ml : (pre.length : Int) ≤ m
  below : Below w.heap.size w W
  sz : n0 ≤ W.heap.size
  tt : ∀ k, t k → n0 ≤ k ∧ k < W.heap.size ∧ u.ownBlock ≠ some k
theorem LOn.kept {w : World} {n0 : Nat} {m : Int} {t : Nat → Prop} {pre : List On} {u : Value} {W W' : World} {row : Option Nat} (h : LOn w n0 m t pre u W) (hg : W.grownBy W' row) (hr : ∀ r, row = some r → w.heap.size ≤ r ∧ ∃ o : Obj, W.heap[r]? = some o ∧ o.isCells = false) : LOn w n0 m t pre u W' :=
  have hr' := fun r e => (hr r e).2
  ⟨h.b0.kept hg (not_cells h.b0 hr'), h.b1.kept hg (not_cells h.b1 hr'), owns_not_cells h.r1 hg hr', h.ml, h.below.grown hg h.below.size (fun k e => (hr k e).1), Nat.le_trans h.sz hg.size, fun k hk => ⟨(h.tt k hk).1, Nat.lt_of_lt_of_le (h.tt k hk).2.1 hg.size, (h.tt k hk).2.2⟩⟩
/-- Where it was left. -/
def LOx (w : World) (n0 : Nat) (m : Int) (c : Code) (pre : List On) (W : World) : Prop := c = .exit 0 ∧ ∃ t pre1 x lv, pre = pre1 ++ [x] ∧ (pre1.length : Int) = m ∧ LOn w n0 m t pre1 lv W
def OnTold (w : World) (l : List On) (e : Ending) (w' : World) : Prop := Below w.heap.size w w' ∧ ∃ v, e = .returned v ∧ TwE w' v l.length l
set_option maxRecDepth 100000 in
set_option maxHeartbeats 4000000 in
theorem toldO_in (n : Nat) (hn : 5 ≤ n) {w : World} {a : Option Addr} {q : List On} (h : AllT w a q) (m : Nat) (hm : m ≤ 100000) :
    CallsIn Fence.wide n Try.prog 15 #[.pointer a, .int .i64 m] w (OnTold w (q.take m)) := by
  have h1 : 1 ≤ n := by omega
  obtain ⟨i0, hi, hz0, hz1, hz2⟩ := info_split infoOn
  obtain ⟨mi, hmi⟩ : ∃ mi : Int, mi = (m : Int) := ⟨_, rfl⟩
  rw [← hmi]
  have hmi2 : 0 ≤ mi ∧ mi ≤ 100000 := by omega
  obtain ⟨w1, hw1⟩ : ∃ w1, w1 = (w.alloc (.cells #[.int .i64 mi] 3)).alloc (.cells #[.slice none 0 0] TSO) := ⟨_, rfl⟩
  have hb1 : Below w.heap.size w w1 := by rw [hw1]; exact ((Below.refl _ _).alloc (Nat.le_refl _) _).alloc (by simp) _
  have hsz1 : w1.heap.size = w.heap.size + 2 := by rw [hw1]; simp
  have b0 := (Boxed.new w 3 (.int .i64 mi)).alloc (.cells #[.slice none 0 0] TSO)
  have b1 := Boxed.new (w.alloc (.cells #[.int .i64 mi] 3)) TSO (.slice none 0 0)
  simp only [World.size_alloc] at b1
  rw [← hw1] at b0 b1
  have HM := hid hmi
  clear hmi hm
  have HQ := hid h
  have HB0 := hid b0
  have HB1 := hid b1
  have HBW := hid hb1
  have HW1 := hid hw1
  have HZ1 := hid hsz1
  clear b0 b1 hb1 hw1 hsz1 h
  refine callsIn_of_wp_marks Try.func15 rfl trivial ?_ rfl
  simp only [Try.ntmps15, List.size_toArray, List.length_cons, List.length_nil, Nat.reduceAdd, Nat.reduceSub, Array.replicate_succ, Array.replicate_zero, List.push_toArray, List.append_toArray, List.nil_append, List.cons_append]
  have hq := seqO_not_nil
  have HALL := hid (HQ.out.all _ HBW.out)
  gi_wp2
  rw [← HW1.out]
  first
    | refine ⟨trivial, (fun h => by cases h), (callsIn_wide.2 HALL.out).mono ?_⟩
    | refine ⟨trivial, (callsIn_wide.2 HALL.out).mono ?_⟩
    | refine (callsIn_wide.2 HALL.out).mono ?_
  rintro e w2 ⟨rfl, hw2⟩
  have hb2 : Below w1.heap.size w1 w2 := by rw [hw2]; exact (Below.refl _ _).alloc (Nat.le_refl _) _
  have hbw := HBW.out.trans (hb2.mono HBW.out.size)
  have hsz : w.heap.size + 2 ≤ w2.heap.size := by have := hb2.size; rw [HZ1.out] at this; exact this
  obtain ⟨b, hb⟩ : ∃ b, b = w1.heap.size := ⟨_, rfl⟩
  rw [← hb]
  have hbx : Boxed w2 b 23 (.pointer a) := by rw [hw2, hb]; exact Boxed.new _ _ _
  have hb2s : Boxed w2 (w.heap.size + 1) TSO (.slice none 0 0) := (hb2.block _ HB1.out.lt).trans HB1.out
  have hLK : ∀ t W, (∀ k, t k → w2.heap.size ≤ k ∧ k < W.heap.size) → Below w2.heap.size w2 W → LOn w w2.heap.size mi t [] (.slice none 0 0) W := fun t W h1 h3 =>
    ⟨(h3.block _ (by have := HB0.out.lt; have := hb2.size; omega)).trans ((hb2.block _ HB0.out.lt).trans HB0.out), (h3.block _ hb2s.lt).trans hb2s, World.ownsRow_nil _ _ _ _, by simpa using hmi2.1, hbw.trans (h3.mono hbw.size), h3.size, fun k hk => ⟨(h1 k hk).1, (h1 k hk).2, by simp [Value.ownBlock]⟩⟩
  have HST := hid (HQ.out.tells w2 b (n - 1) hbw (by have := HZ1.out; omega) hbx (by omega))
  have HLK := hid hLK
  have HZ := hid hsz
  clear hLK hbw hb2s hb2 HW1 HB0 HB1 hsz hw2 hb hbx HQ HALL
  gi_wp2
  clear hq
  refine rangeFunc_x rfl h1 (gf := 31) (lb := #[.pointer (some ⟨b, 0, none⟩)]) rfl trivial (enters_of Try.func31 (by kernel_rfl) rfl)
    HST.out (fun _ _ _ h => h.1) (fun _ {A B C} h k => KS.t h k) (fun _ W l o o' _ h2 h3 _ => KS.b _ W l o o' h2 h3) (fun _ => rfl)
    (fun t pre Wc => ∃ lv, LOn w w2.heap.size mi t pre lv Wc) (LOx w w2.heap.size mi)
    (fun _ _ _ _ _ ⟨lv, h⟩ hg hr => ⟨lv, h.kept hg (fun r e => ⟨by have := (hr r e).1; have := HZ.out; omega, (hr r e).2⟩)⟩)
    (fun _ _ _ _ _ ⟨hc, t, p1, x, lv, h1, h2, h3⟩ hg hr => ⟨hc, t, p1, x, lv, h1, h2, h3.kept hg (fun r e => ⟨by have := (hr r e).1; have := HZ.out; omega, (hr r e).2⟩)⟩)
    (fun _ _ _ _ => trivial) (fun _ _ => trivial) (fun t W1 W hb _ ⟨h3, h1⟩ => ⟨_, HLK.out t W (fun k hk => ⟨Nat.le_trans hb.size (h1 k hk).1, (h1 k hk).2⟩) (hb.trans (h3.mono hb.size))⟩)
    (fun t pre x a' Wc => ∃ lv, LOn w w2.heap.size mi t pre lv Wc ∧ a' = { tmps := #[.pointer a, .int .i64 mi, undef, .pointer (some ⟨w.heap.size, 0, none⟩), .slice none 0 0, .pointer (some ⟨w.heap.size + 1, 0, none⟩), .func (.func 31) #[] #[.pointer (some ⟨b, 0, none⟩)], .int .u64 x.1, iv x.2, .pointer a, .func (.func 31) #[] #[.pointer (some ⟨b, 0, none⟩)], .func (.func 31) #[] #[.pointer (some ⟨b, 0, none⟩)], .bool true, .func (.func 31) #[] #[.pointer (some ⟨b, 0, none⟩)], .int .u64 x.1, iv x.2, undef, undef, undef, undef, undef, undef, undef, undef, undef, undef, undef], defers := [] })
    (fun _ pre x a' _ X Y row hs hg hr => by
      obtain ⟨lv, e0, e3⟩ := hs
      exact ⟨lv, e0.kept hg (fun r e => ⟨by have := (hr r e).1; have := HZ.out; omega, (hr r e).2⟩), e3⟩)
    ?assignrow ?bodyrow ?donerow ?stoprow
  case assignrow =>
    rintro lo t pre x Wc K ⟨lv, hci⟩ _ hK
    simp only [encO]
    have HCI := hid hci
    have HKK := hid hK
    clear hci hK
    gi_wp2
    exact HKK.out _ _ (KeepsFrom.refl _ _) (KS.refl _ Wc) ⟨lv, HCI.out, rfl⟩
  case bodyrow =>
    rintro lo t pre x a' Wc hl ⟨r, hr⟩ hpx ⟨lv, H, rfl⟩
    have e0 := H.b0.cell
    have e1 := H.b1.cell
    have f1 := H.b1.frozen
    have hml := H.ml
    obtain ⟨la, lk, rfl⟩ := own_form H.r1
    have HH := hid H
    obtain ⟨N, hN⟩ : ∃ N, N = pre.length := ⟨_, rfl⟩
    have HN := hid hN
    rw [← hN] at e1 hml
    clear H hl hr hN hpx
    by_cases hfull : (N : Int) = mi
    · have hge : decide (mi ≤ (N : Int)) = true := by simp; omega
      have HF := hid hfull
      clear hfull
      gi_wp2
      exact ⟨KeepsFrom.refl _ _, rfl, t, pre, _, _, rfl, by rw [← HN.out]; exact HF.out, HH.out⟩
    · have hge : decide (mi ≤ (N : Int)) = false := by simp; omega
      have hlt : (N : Int) < mi := by omega
      clear hfull
      have H := HH.out
      have hsz := H.sz
      have hzz := HZ.out
      have hrow := H.r1
      rw [← HN.out] at hrow
      have hbx := H.b1
      rw [← HN.out] at hbx
      have HROW := hid hrow
      have HBX := hid hbx
      clear hrow hbx
      gi_wp2_with (first
        | (gi_at_builtin; refine wpListIn_appAt _ rfl _ _ TSO rfl w2.heap.size TOn i0 (.agg #[.int .u64 0, .int .i64 0]) 2 16 Try.underlying35 hi hz0 hz1 hz2 rfl (by decide) _ _ _ rfl (HROW.out.alloc _) ⟨Wc.heap.size, 0, none⟩ 1 1 (onc x) rfl rfl (World.news_of_block (heap_alloc_new Wc _)) (fun u hu => by simp only [onc, List.mem_cons, List.not_mem_nil, or_false] at hu; rcases hu with rfl | rfl <;> rfl) (by simp only [maxLen]; omega) (by omega) (by simp; omega) ?_; intro v' w3 hown' hgrow hat; obtain ⟨g', cap', rfl⟩ := ownsRow_succ hown'; obtain ⟨p1, p2, p3, p4, p5, p6, p7⟩ := box_push HBX.out (by decide) HROW.out hown' hgrow; have hc1 := p1.cell; have hf1 := p1.frozen))
      have htt := H.tt
      rw [← HN.out] at htt
      refine ⟨p4.from _, ?_, _, p7 _ _ _ H.b0 (by omega) (by omega), p2, ?_, ?_, H.below.trans (p6 _ (by omega) (by omega) H.below.size), Nat.le_trans hsz p4.size, fun k hk => ⟨(htt k hk).1, Nat.lt_of_lt_of_le (htt k hk).2.1 p4.size, ?_⟩⟩
      · exact (((KS.refl _ Wc).alloc _).grown hgrow (fun k ek e2 => (htt k e2).2.2 ek)).set _ _ (fun e => by have h5 : w2.heap.size ≤ w.heap.size + 1 := (htt _ e).1; omega)
      · have h7 : onv (pre ++ [x]) = onv pre ++ onc x := by simp [onv, onc]
        rw [List.length_append, List.length_singleton, ← HN.out, h7]; exact p3
      · rw [List.length_append, List.length_singleton, ← HN.out]; omega
      · intro e
        rcases hat with e2 | e2
        · rw [e] at e2; exact (htt k hk).2.2 e2.symm
        · rw [e] at e2; have := (htt k hk).2.1; simp at e2; omega
  case donerow =>
    rintro D t Wc hD ⟨lv, H⟩ hK
    have e1 := H.b1.cell
    have HH := hid H
    clear H
    gi_wp2
    refine ⟨by simp, .inl ⟨_, _, rfl, run_takeDeferred hK, ?_⟩⟩
    have H2 := HH.out.kept (grownBy_putObj' Wc D (.deferred none)) (fun r e => by cases e; exact ⟨by have := HZ.out; omega, _, hK, rfl⟩)
    refine ⟨_, results_tmp rfl _ _ _, H2.below, lv, rfl, ?_⟩
    have ht := TwE.of H2.r1
    have hml := H2.ml
    rw [List.take_of_length_le (by have := HM.out; omega)]
    exact ht
  case stoprow =>
    rintro D c pre Wc hD hp ⟨rfl, t, p1, x, lv, rfl, hm, H⟩ hK
    have e1 := H.b1.cell
    have HH := hid H
    have HS := hid hp
    have HMM := hid hm
    clear H hp hm
    gi_wp2
    refine ⟨by simp, .inl ⟨_, _, rfl, run_takeDeferred hK, ?_⟩⟩
    have H2 := HH.out.kept (grownBy_putObj' Wc D (.deferred none)) (fun r e => by cases e; exact ⟨by have := HZ.out; omega, _, hK, rfl⟩)
    refine ⟨_, results_tmp rfl _ _ _, H2.below, lv, rfl, ?_⟩
    have ht := TwE.of H2.r1
    have hlen : p1.length = m := by have := HM.out; have := HMM.out; omega
    have hpr := List.prefix_iff_eq_take.1 ((List.prefix_append p1 [x]).trans HS.out)
    have h9 : p1 = q.take m := by rw [← hlen]; exact hpr
    rw [h9] at ht
    exact ht
theorem toldO_any {w : World} {a : Option Addr} {q : List On} (h : AllT w a q) (m : Nat) (hm : m ≤ 100000) : Calls Try.prog 15 #[.pointer a, .int .i64 m] w (OnTold w (q.take m)) :=
  (callsIn_wide (n := 5)).1 (toldO_in 5 (by omega) h m hm)
end Go.Proofs.Ytbdhjkdojgdhbaa
