/-
  What slices.All tells; the law's helper that collects what is told of the heights.
-/
import Derived.Test.YtidbdmggpljlcaaDoorCkH
import Derived.Test.YtidbdmggpljlcaaDoorCdY
namespace Go.Proofs.YtidbdmggpljlcaaDoor
open Go Go.ChangeShapes Go.WideShapes Go.ChangeAt Go.RowKit Go.Shelf
attribute [local go_sem] Oper.semAt_some

theorem LiI.ks {S : Nat → Prop} {W W' : World} {a : Option Addr} {L : List Int} (h : LiI W a L) (hk : KS S W W') (hS : ∀ g, a = some ⟨g, 0, none⟩ → S g) : LiI W' a L := fun j x hx => by
  obtain ⟨g, h1, h3⟩ := h j x hx
  exact ⟨g, h1, hk.cell (p := ⟨g, j, none⟩) (hS g h1) h3⟩
theorem lies_owns {W : World} {B n c : Nat} {a : Option Addr} {L : List Int} (h : W.ownsRow B 3 1 (.slice a n c) n (i64l L)) : LiI W a L := fun j x hx => by
  have hl : j < L.length := (List.getElem?_eq_some_iff.1 hx).1
  have hn : n = L.length := by have := h.1; rw [i64l_len] at this; omega
  obtain ⟨g, cap, e, _⟩ := h.form (by omega)
  cases e
  refine ⟨g, rfl, ?_⟩
  rw [h.cellAt j (by omega)]
  simp [i64l, hx]
/-- What is told: a place and the number there. -/
def alv (L : List Int) (k : Nat) : Array Value := #[.int .i64 (k : Int), .int .i64 (L.getD k 0)]
set_option maxRecDepth 100000 in
set_option maxHeartbeats 1000000 in
theorem all_walk (n lp A c N : Nat) (S : Nat → Prop) (a : Option Addr) (L : List Int) (J Jx : List Nat → World → Prop)
    (hY : ∀ pre (x : Nat) W, J pre W → pre.length < L.length → YieldAt Fence.wide (n - 1) Tryd.prog lp (alv L x) W fun e W' =>
      (e = .returned (.bool true) ∧ J (pre ++ [x]) W' ∧ KS S W W') ∨ (e = .returned (.bool false) ∧ Jx (pre ++ [x]) W'))
    (W : World) (hA : Boxed W A 28 (.slice a N c)) (hL : LiI W a L) (hN : N = L.length) (hNc : N ≤ c) (hN2 : N ≤ 1000000) (hS : ∀ g, a = some ⟨g, 0, none⟩ → S g) (h0 : J [] W) :
    CallsIn Fence.wide n Tryd.prog 32 #[.func (.yield lp) #[] #[], .pointer (some ⟨A, 0, none⟩)] W fun e W' => (∃ v, e = .returned v) ∧ ((∃ ys, ys = List.range L.length ∧ J ys W') ∨ (∃ pre, pre <+: List.range L.length ∧ Jx pre W')) := by
  have HY := hid hY
  have H0 := hid h0
  have HL := hid hL
  have HN := hid hN
  have HS := hid hS
  have ca := hA.cell
  have hcc := hNc
  clear hY h0 hL hN hS hA hNc
  refine callsIn_of_wp Tryd.func32 rfl trivial ?_ rfl
  simp only [Tryd.ntmps32, List.size_toArray, List.length_cons, List.length_nil, Nat.reduceAdd, Nat.reduceSub, Array.replicate_succ, Array.replicate_zero, List.push_toArray, List.append_toArray, List.nil_append, List.cons_append]
  gi_wp2
  gi_loopw [7] (fun p wr => ∃ q : Nat, q ≤ N ∧ p = .int .i64 q ∧ RowKit.Hid (J (List.range q) wr) ∧ RowKit.Hid (KS S W wr)) (fun p _ => N - (intOf p).toNat)
  case atStart => exact ⟨0, by omega, rfl, hid (by simpa using H0.out), hid (KS.refl _ _)⟩
  case round =>
    obtain ⟨q, hq, rfl, HJ, HK⟩ := hrel
    by_cases hql : q < N
    · have hx : L[q]? = some (L.getD q 0) := by rw [List.getD_eq_getElem?_getD, List.getElem?_eq_getElem (by have := HN.out; omega)]; rfl
      have htk : List.range (q + 1) = List.range q ++ [q] := List.range_succ
      have HT := hid htk
      obtain ⟨g, rfl, cg⟩ := (HL.out.ks HK.out HS.out) q _ hx
      have hy0 := HY.out (List.range q) q wr HJ.out (by have := HN.out; simp; omega)
      unfold alv at hy0
      obtain ⟨x, hxe⟩ : ∃ x, x = L.getD q 0 := ⟨_, rfl⟩
      rw [← hxe] at hy0 cg
      obtain ⟨fn, tmps, assign, body, hy, hRd⟩ := hy0
      have HRD := hid hRd
      clear hRd htk hx hxe
      gi_wp2
      refine ⟨(fun h => by cases h), HRD.out.mono ?_⟩
      rintro e W3 (⟨rfl, hJ3, hk3⟩ | ⟨rfl, hJx3⟩)
      · have J3 := hid hJ3
        have K3 := hid (HK.out.t hk3)
        clear hJ3 hk3
        gi_wp2
        go_roundw
        case rel => exact ⟨q + 1, by omega, by go_num, by rw [HT.out]; exact J3, K3⟩
        case measure => simp [intOf]; omega
      · have J3 := hid hJx3
        clear hJx3
        gi_wp2
        refine bodyPost_ret (results_none rfl _ _ _) rfl ?_
        refine ⟨⟨_, rfl⟩, .inr ⟨_, ?_, J3.out⟩⟩
        rw [← HT.out, ← HN.out]
        have h := List.take_prefix (q + 1) (List.range N)
        rw [List.take_range, Nat.min_eq_left (by omega)] at h
        exact h
    · obtain rfl : q = N := by omega
      gi_wp2
      go_end0
      exact ⟨⟨_, rfl⟩, .inl ⟨_, rfl, by have := HJ.out; rw [HN.out] at this; exact this⟩⟩
theorem all_stops (n A B : Nat) (S : Nat → Prop) (lv : Value) (L : List Int) (w : World) (hA : Boxed w A 28 lv) (hrow : w.ownsRow B 3 1 lv L.length (i64l L)) (hlen : L.length ≤ 1000000) (hS : ∀ g, lv.ownBlock = some g → S g) :
    SeqStopsK Fence.wide n Tryd.prog 32 #[.pointer (some ⟨A, 0, none⟩)] (alv L) (KS S) (fun ys => ys = List.range L.length) (fun pre => pre <+: List.range L.length) L.length w := fun lp J Jx W hW _ _ hY h0 => by
  obtain ⟨a, c, rfl⟩ := own_form hrow
  have hl := lies_owns hrow
  have hc := own_cap hrow
  exact all_walk n lp A c L.length _ a L J Jx hY W ((hW.block A hA.lt).trans hA) (hl.below hW) rfl hc hlen (fun g hg => hS g (by rw [hg]; rfl)) h0
/-- append, and where the row lies behind it. -/
theorem wpListIn_append_at {F : Fence} {n : Nat} {P : Program} (w : World) {ops : Array Oper} {rest : List Oper} {o : Oper} {a : Act} {Q : Exit → Act → World → Prop}
    (hg : o.guard = none) (s x : Operand) (t : TypeId) (hop : o.op = Op.call { callee := Callee.builtin Builtin.append, args := #[s, x], argTypes := #[t, t] })
    (base : Nat) (e : TypeId) (i : TypeInfo) (z : Value) (size bytes : Nat) (h1 : P.underlying t = some (.slice e)) (h2 : P.info? e = some i) (h3 : i.zero = some z) (h4 : i.size = size) (h5 : i.bytes = bytes) (h6 : z.cells.size = size) (h7 : 0 < size)
    (v : Value) (k : Nat) (xs : List Value) (hs : a.eval s = v) (hown : w.ownsRow base e size v k xs) (ad : Addr) (m c : Nat) (news : List Value) (hx : a.eval x = .slice (some ad) m c) (hn : news.length = m * size)
    (hc : ∀ j u, news[j]? = some u → w.cell? (ad.add j) = some u) (h1c : ∀ u ∈ news, u.oneCell' = true) (b1 : k + m ≤ maxLen) (b2 : (k + m) * bytes ≤ 140737488355328) (b3 : base ≤ w.heap.size)
    (hK : ∀ v' w', w'.ownsRow base e size v' (k + m) (xs ++ news) → w.grownBy w' v.ownBlock → (v'.ownBlock = v.ownBlock ∨ v'.ownBlock = some w.heap.size) → wpListIn F n P ops Q rest (a.put o.dst v') w') :
    wpListIn F n P ops Q (o :: rest) a w := by
  refine wpListIn_plain hg fun K hK' => ?_
  obtain ⟨v', w', hrun, r1, r2, _, r4⟩ := run_append_own_at (P := P) (w := w) base t o.type e i z size bytes h1 h2 h3 h4 h5 h6 h7 v k xs hown ad m c news hn hc h1c b1 b2 b3
  unfold Oper.wpIn
  refine ⟨?_, ?_⟩
  · simp [Oper.about, hop, resolve, Target.leads, Sem.run_pure]
  · rw [Oper.semAt_plain F _ _ (by rw [hop]; intro c hc'; cases hc')]
    simp [execOp, hop, resolve, invoke, builtin, hs, hx, hrun, Result.andThen]
    exact hK' _ _ (hK v' w' r1 r2 r4)
/-- The other row, over a push. -/
theorem other_row {W w1 : World} {n₀ B : Nat} {t e : TypeId} {size : Nat} {v v' u : Value} {k2 : Nat} {us : List Value} {tmp : Obj} (hv : Boxed W B t v) (hte : t ≠ e) (hgrow : (W.alloc tmp).grownBy w1 v.ownBlock)
    (hat : v'.ownBlock = v.ownBlock ∨ v'.ownBlock = some (W.alloc tmp).heap.size) (hu : W.ownsRow n₀ e size u k2 us) (hne : ∀ g, v.ownBlock = some g → u.ownBlock ≠ some g) :
    (w1.setCell ⟨B, 0, none⟩ v').ownsRow n₀ e size u k2 us ∧ (∀ g, v'.ownBlock = some g → u.ownBlock ≠ some g) := by
  have hn : u.ownBlock = none ∨ u.ownBlock ≠ v.ownBlock := by
    cases hub : u.ownBlock with
    | none => exact .inl rfl
    | some g => exact .inr (fun e2 => hne g e2.symm hub)
  have h1 := (hu.alloc tmp).kept hgrow hn
  refine ⟨h1.kept (grownBy_setCell' w1 B v') ?_, fun g hg hug => ?_⟩
  · rcases h1.2 with ⟨rfl, _⟩ | ⟨g, cap, cur, rfl, _, hgb, _⟩
    · exact .inl rfl
    · refine .inr (fun e2 => ?_)
      have e3 : g = B := by simpa [Value.ownBlock] using e2
      subst e3
      have hx := (hu.alloc tmp)
      rcases hx.2 with ⟨q, _⟩ | ⟨g', cap', cur', q, _, hgb', _⟩
      · cases q
      · cases q
        have h5 := hv.alloc tmp
        unfold Boxed at h5
        rw [h5] at hgb'
        cases hgb'
        exact hte rfl
  · rcases hat with h | h
    · exact hne g (by rw [← h]; exact hg) hug
    · rw [h] at hg
      cases hg
      have := (hu.lt _ hug).2
      simp at this
      omega
end Go.Proofs.YtidbdmggpljlcaaDoor
