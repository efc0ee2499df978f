/- VlW VariantWalksLaw in one -/
import Derived.Test.YtplckmoeaeabgaaVwW
import Derived.Test.YtplckmoeaeabgaaVrW
import Derived.Test.YtplckmoeaeabgaaVlA
import Derived.Test.YtplckmoeaeabgaaSure
import Derived.Deep.Cut
import Derived.Test.YtplckmoeaeabgaaVrFrame
namespace Go.Proofs.Ytplckmoeaeabgaa
open Go Go.ChangeShapes Go.WideShapes Go.ChangeAt Go.RowKit Go.Shelf
attribute [local go_sem] Oper.semAt_some

/-- All values in one, without places. -/
def walkV : Vr → Int → List (Int × Vr)
  | .mk k n s l, d => (d, .mk k n s l) :: l.flatMap fun x => walkV x (wrap64 (d + 1))
theorem walkV_mk (k n : Int) (s : List Int) (l : List Vr) (d : Int) : walkV (.mk k n s l) d = (d, .mk k n s l) :: l.flatMap fun x => walkV x (wrap64 (d + 1)) := by rw [walkV]
theorem walkM_vr (m : Mv) : ∀ d, (walkM m d).map vrp = walkV m.vr d := by
  induction m using Mv.ind with
  | h k n s a c l ih =>
    intro d
    rw [walkM_mk, Mv.vr_mk, walkV_mk, List.map_cons, List.map_flatMap]
    congr 1
    · simp [vrp, Mv.vr_mk]
    · rw [List.flatMap_map]
      have : ∀ l' : List Mv, (∀ x ∈ l', x ∈ l) → (l'.flatMap fun a => (walkM a (wrap64 (d + 1))).map vrp) = l'.flatMap fun a => walkV a.vr (wrap64 (d + 1)) := fun l' => by
        induction l' with
        | nil => intro _; rfl
        | cons y l' ih2 =>
          intro hm
          rw [List.flatMap_cons, List.flatMap_cons, ih y (hm y (by simp)), ih2 (fun x hx => hm x (by simp [hx]))]
      exact this l (fun _ h => h)
theorem func_ne_nil (f : Nat) (fv : Array Value) (W : World) : (binOp .neq 54 (.func (.func f) #[] fv) .nilFunc).run Try.prog W = .ok (.bool true) W := by kernel_rfl
theorem kept_push {W w1 : World} {n₀ Bx : Nat} {t e u : TypeId} {size k : Nat} {v : Value} {xs : List Value} {tmp : Obj} (hv : Boxed W Bx t v) (ht : u ≠ t) (he : u ≠ e) (hrow : W.ownsRow n₀ e size v k xs)
    (hgrow : (W.alloc tmp).grownBy w1 v.ownBlock) (v' : Value) {j : Nat} {cs : Array Value} {fr : Nat × Nat} (hj : W.heap[j]? = some (.cells cs u fr)) : (w1.setCell ⟨Bx, 0, none⟩ v').heap[j]? = some (.cells cs u fr) := by
  have hjl := (Array.getElem?_eq_some_iff.1 hj).1
  have hne : j ≠ Bx := fun e => by
    subst e
    rw [hv] at hj; cases hj; exact ht rfl
  have hnr : ¬ some j = v.ownBlock := fun h => by
    rcases hrow.2 with ⟨rfl, _⟩ | ⟨g, cap, cur, rfl, hg, hgb, _⟩
    · simp [Value.ownBlock] at h
    · have : j = g := by simpa [Value.ownBlock] using h
      subst this
      rw [hgb] at hj; cases hj; exact he rfl
  rw [Below.heap_setCell _ _ _ _ hne, hgrow.block j (by simp; omega) hnr, Below.heap_alloc _ _ _ hjl]
  exact hj
theorem ky_push {B : Nat} {W w1 : World} {n₀ Bx : Nat} {t e : TypeId} {size k : Nat} {v : Value} {xs : List Value} {tmp : Obj} (hv : Boxed W Bx t v) (ht : t ≠ 24 ∧ 71 ≠ t) (he : e ≠ 24 ∧ 71 ≠ e) (hrow : W.ownsRow n₀ e size v k xs)
    (hgrow : (W.alloc tmp).grownBy w1 v.ownBlock) (hB : B ≤ Bx) (hr : B ≤ n₀) (v' : Value) : KY B W (w1.setCell ⟨Bx, 0, none⟩ v') :=
  ⟨kq_push hv ht.1 he.1 hrow hgrow (by omega) (fun r h => by omega) v', fun _ _ _ hj => kept_push hv ht.2 he.2 hrow hgrow v' hj⟩
theorem ms_kq {B : Nat} {W W' : World} {m : Mv} (h : MS W (LB B W) m) (hk : KQ (fun b => b < B) W W') : MS W' (LB B W') m :=
  (h.ks (LB.ks hk)).weak (fun _ hb => hb.imp id (fun h => h.kq hk))
/-- Between two rounds of walked. -/
structure DI (w0 : World) (most : Int) (pre : List (Int × Mv)) (lv : Value) (W : World) : Prop where
  b1 : Boxed W (w0.heap.size + 1 + 1) 43 lv
  bm : Boxed W (w0.heap.size + 1) 3 (.int .i64 most)
  row : W.ownsRow w0.heap.size 48 5 lv pre.length (rowD pre)
  ms : ∀ x ∈ pre, MS W (LB w0.heap.size W) x.2
  below : Below w0.heap.size w0 W
  le : pre.length ≤ most.toNat
theorem DI.kept {w0 : World} {most : Int} {pre : List (Int × Mv)} {lv : Value} {W W' : World} {row : Option Nat} (h : DI w0 most pre lv W) (hg : W.grownBy W' row) (hr : ∀ r, row = some r → w0.heap.size ≤ r ∧ ∃ o : Obj, W.heap[r]? = some o ∧ o.isCells = false) : DI w0 most pre lv W' :=
  have hr' := fun r e => (hr r e).2
  ⟨h.b1.kept hg (not_cells h.b1 hr'), h.bm.kept hg (not_cells h.bm hr'), owns_not_cells h.row hg hr', fun x hx => ms_kq (h.ms x hx) ((KQ.refl _ W).grown hg hr'), h.below.grown hg h.below.size (fun k e => (hr k e).1), h.le⟩
def WPost (w : World) (v : Vr) (most : Int) (e : Ending) (w' : World) : Prop :=
  ∃ (lv : Value) (l : List (Int × Mv)), e = .returned lv ∧ w'.ownsRow w.heap.size 48 5 lv l.length (rowD l) ∧ l.map vrp = (walkV v 0).take most.toNat ∧ (∀ x ∈ l, MS w' (LB w.heap.size w') x.2) ∧ Below w.heap.size w w'
set_option maxRecDepth 100000 in
set_option maxHeartbeats 4000000 in
theorem walked_in (n : Nat) (hn : 5 ≤ n) (w : World) (v : Vr) (cs : List Value) (most : Int) (h : VS w (fun b => b < w.heap.size) v cs) (hN : cntV v ≤ 1048576) (hmo : -9223372036854775808 ≤ most ∧ most ≤ 1048576) :
    CallsIn Fence.wide n Try.prog 22 #[.agg cs.toArray, .int .i64 most] w (WPost w v most) := by
  have h1 : 1 ≤ n := by omega
  obtain ⟨i0, hi, hz0, hz1, hz2⟩ := info_parts infoDeep
  obtain ⟨ck, cn, cb, ca, cl, cc, rfl⟩ := VS.c4 h
  have hq := func_ne_nil
  obtain ⟨w3, hw3⟩ : ∃ w3, w3 = ((w.alloc (.cells #[.int .i64 ck, .int .i64 cn, .string cb, .slice ca cl cc] 24)).alloc (.cells #[.int .i64 most] 3)).alloc (.cells #[.slice none 0 0] 43) := ⟨_, rfl⟩
  have hb3 : Below w.heap.size w w3 := by rw [hw3]; exact (((Below.refl _ _).alloc (Nat.le_refl _) _).alloc (by simp) _).alloc (by simp; omega) _
  have h0b : Boxed w3 (w.heap.size + 1 + 1) 43 (.slice none 0 0) := by
    rw [hw3]
    have := Boxed.new ((w.alloc (.cells #[.int .i64 ck, .int .i64 cn, .string cb, .slice ca cl cc] 24)).alloc (.cells #[.int .i64 most] 3)) 43 (.slice none 0 0)
    simpa using this
  have hmb : Boxed w3 (w.heap.size + 1) 3 (.int .i64 most) := by rw [hw3]; exact heap_alloc3_mid _ _ _ _
  have hDI : DI w most [] (.slice none 0 0) w3 := ⟨h0b, hmb, World.ownsRow_nil _ _ _ _, fun x hx => by simp at hx, hb3, Nat.zero_le _⟩
  have HWK := hid (Walk_typed w3 w.heap.size v _ (VS.of_blocks (fun b hb => hb3.block b hb) h) hb3.size hN)
  have HD := hid hDI
  have HW3 := hid hw3
  have HNN := hid hN
  clear h hw3 hb3 h0b hmb hDI hN
  refine callsIn_of_wp_marks Try.func22 rfl trivial ?_ rfl
  simp only [Try.ntmps22, List.size_toArray, List.length_cons, List.length_nil, Nat.reduceAdd, Nat.reduceSub, Array.replicate_succ, Array.replicate_zero, List.push_toArray, List.append_toArray, List.nil_append, List.cons_append]
  gi_wp2_with fail
  rw [← HW3.out]
  first
    | refine (callsIn_wide.2 HWK.out).mono ?_
    | refine ⟨trivial, (callsIn_wide.2 HWK.out).mono ?_⟩
    | refine ⟨trivial, (fun h => by cases h), (callsIn_wide.2 HWK.out).mono ?_⟩
  rintro e w4 ⟨A, m, rfl, hmv, hAl, hA, hM, hb4⟩
  have hN2 : cntV m.vr ≤ 1048576 := by rw [hmv]; exact HNN.out
  have hsz34 := hb4.size
  have hwB : w.heap.size ≤ w4.heap.size := Nat.le_trans HD.out.below.size hb4.size
  have hte := walker_tells (n - 1) A w.heap.size (by omega) m w4 hwB hA hM hN2
  have hD4 : DI w most [] (.slice none 0 0) w4 := HD.out.kept (grown_below hb4) (fun r e => by cases e)
  rw [walkM_vr, hmv] at hte
  have HTE := hid hte
  have HD4 := hid hD4
  have HWB := hid hwB
  have hlim : ∀ pre : List (Int × Mv), pre.length ≤ 1048576 → True := fun _ _ => trivial
  clear hmv hAl hA hM hb4 hN2 hsz34 hwB hte hD4 HWK HD HW3 hlim
  gi_wp2
  refine rangeFunc_mem rfl h1 (gf := 52) (lb := #[.pointer (some ⟨A, 0, none⟩)]) rfl trivial (enters_of Try.func52 (by kernel_rfl) rfl)
    HTE.out (fun h k => h.t k) (fun W l o o' _ h2 h3 _ => KY.b _ W l o o' h2 h3) (fun _ => rfl)
    (fun pre Wc => ∃ lv, DI w most pre lv Wc) (fun c pre Wc => c = .exit 0 ∧ ∃ pre1 x lv, pre = pre1 ++ [x] ∧ most ≤ pre1.length ∧ DI w most pre1 lv Wc)
    (fun _ _ _ _ ⟨lv, h⟩ hg hr => ⟨lv, h.kept hg (fun r e => ⟨by have := (hr r e).1; have := HWB.out; omega, (hr r e).2⟩)⟩)
    (fun _ _ _ _ _ ⟨hc, p1, x, lv, h1, h2, h3⟩ hg hr => ⟨hc, p1, x, lv, h1, h2, h3.kept hg (fun r e => ⟨by have := (hr r e).1; have := HWB.out; omega, (hr r e).2⟩)⟩) ⟨_, HD4.out⟩
    (fun pre x a' Wc => ∃ lv Bx, DI w most pre lv Wc ∧ MS Wc (LB w.heap.size Wc) x.2 ∧ Wc.heap[Bx]? = some (.cells #[.int .i64 x.2.k, .int .i64 x.2.n, .string (strI x.2.s), .slice x.2.a x.2.l.length x.2.c] 24 (0, 0)) ∧ a' = { tmps := #[.agg #[.int .i64 ck, .int .i64 cn, .string cb, .slice ca cl cc], .int .i64 most, .pointer (some ⟨w.heap.size, 0, none⟩), .pointer (some ⟨w.heap.size + 1, 0, none⟩), .slice none 0 0, .pointer (some ⟨w.heap.size + 1 + 1, 0, none⟩), .func (.func 52) #[] #[.pointer (some ⟨A, 0, none⟩)], .int .i64 x.1, .pointer (some ⟨Bx, 0, none⟩), .agg #[.int .i64 ck, .int .i64 cn, .string cb, .slice ca cl cc], .func (.func 52) #[] #[.pointer (some ⟨A, 0, none⟩)], .func (.func 52) #[] #[.pointer (some ⟨A, 0, none⟩)], .bool true, .func (.func 52) #[] #[.pointer (some ⟨A, 0, none⟩)], .int .i64 x.1, .agg #[.int .i64 x.2.k, .int .i64 x.2.n, .string (strI x.2.s), .slice x.2.a x.2.l.length x.2.c], undef, undef, undef, undef, undef, undef, undef, undef, undef, undef, undef], defers := [] })
    (fun pre x a' _ X Y row hs hg hr => by
      obtain ⟨lv, Bx, e0, e1, e2, e3⟩ := hs
      exact ⟨lv, Bx, e0.kept hg (fun r e => ⟨by have := (hr r e).1; have := HWB.out; omega, (hr r e).2⟩), ms_kq e1 ((KQ.refl _ X).grown hg (fun r e => (hr r e).2)), heap_kept e2 hg (not_cells e2 (fun r e => (hr r e).2)), e3⟩)
    ?assign ?body ?done ?stop
  case assign =>
    rintro lo pre x Wc K ⟨lv, hci⟩ hmx hK
    dsimp only [yargs, Mv.cells]
    have HCI := hid hci
    have HKK := hid hK
    have HMX := hid hmx
    clear hci hK hmx
    gi_wp2
    exact HKK.out _ _ ((KeepsOthers.alloc _ _).from _) ⟨(KQ.refl _ Wc).alloc _, fun k cs fr hk => (heap_alloc_old _ _ (lt_of_heap hk)).trans hk⟩
      ⟨lv, Wc.heap.size, HCI.out.kept (World.grownBy_alloc Wc _ none) (fun r e => by cases e), ms_kq HMX.out ((KQ.refl _ Wc).alloc _), heap_alloc_new _ _, rfl⟩
  case body =>
    rintro lo pre x a' Wc hl ⟨r, hr⟩ ⟨lv, Bx, H, hmx, bX, rfl⟩
    have e1 := H.b1.cell
    have f1 := H.b1.frozen
    have em := H.bm.cell
    obtain ⟨c0, c1, c2, c3⟩ := cell4 bX
    obtain ⟨la, lk, rfl⟩ := own_form H.row
    have hle := H.le
    have hsz2 := H.below.size
    have HH := hid H
    have HMX := hid hmx
    obtain ⟨L, hL⟩ : ∃ L, L = pre.length := ⟨_, rfl⟩
    rw [← hL] at e1 hle
    have HL := hid hL
    clear H hmx bX hl hr hL
    by_cases hb : most ≤ (L : Int)
    · have hd : decide (most ≤ (L : Int)) = true := by simpa using hb
      have HBB := hid hb
      clear hb
      gi_wp2
      exact ⟨KeepsFrom.refl _ _, rfl, pre, x, _, rfl, by rw [← HL.out]; exact HBB.out, HH.out⟩
    · have hd : decide (most ≤ (L : Int)) = false := by simpa using hb
      have hL2 : L + 1 ≤ most.toNat := by omega
      have hL3 : L ≤ 1048576 := by omega
      have hrow := HH.out.row
      rw [← HL.out] at hrow
      have hb1 := HH.out.b1
      rw [← HL.out] at hb1
      obtain ⟨xd, hxd⟩ : ∃ z, z = x.1 := ⟨_, rfl⟩
      obtain ⟨xk, hxk⟩ : ∃ z, z = x.2.k := ⟨_, rfl⟩
      obtain ⟨xn, hxn⟩ : ∃ z, z = x.2.n := ⟨_, rfl⟩
      obtain ⟨xs, hxs⟩ : ∃ z, z = strI x.2.s := ⟨_, rfl⟩
      obtain ⟨xa, hxa⟩ : ∃ z, z = x.2.a := ⟨_, rfl⟩
      obtain ⟨xl, hxl⟩ : ∃ z, z = x.2.l.length := ⟨_, rfl⟩
      obtain ⟨xc, hxc⟩ : ∃ z, z = x.2.c := ⟨_, rfl⟩
      have hdc : dcells x = [.int .i64 xd, .int .i64 xk, .int .i64 xn, .string xs, .slice xa xl xc] := by rw [hxd, hxk, hxn, hxs, hxa, hxl, hxc]; rfl
      rw [← hxk] at c0
      rw [← hxn] at c1
      rw [← hxs] at c2
      rw [← hxa, ← hxl, ← hxc] at c3
      rw [← hxd, ← hxk, ← hxn, ← hxs, ← hxa, ← hxl, ← hxc]
      have HDC := hid hdc
      have HROW := hid hrow
      have HB1 := hid hb1
      clear hxd hxk hxn hxs hxa hxl hxc hdc hb hrow hb1 hle
      gi_wp2_with (first
        | (gi_at_builtin; refine wpListIn_append_own _ rfl _ _ 43 rfl w.heap.size 48 i0 (.agg #[.int .i64 0, .int .i64 0, .int .i64 0, .string ⟨#[]⟩, .slice none 0 0]) 5 64 Try.underlying43 hi hz0 hz1 hz2 rfl (by decide) _ _ _ rfl (HROW.out.alloc _) ⟨Wc.heap.size, 0, none⟩ 1 1 [.int .i64 xd, .int .i64 xk, .int .i64 xn, .string xs, .slice xa xl xc] rfl rfl (World.news_of_block (heap_alloc_new Wc _)) (by simp [Value.oneCell']) (by simp only [maxLen]; omega) (by omega) (by simp; omega) ?_; intro v' w2 hown' hgrow _; obtain ⟨g', cap', rfl⟩ := ownsRow_succ hown'; obtain ⟨p1, p2, p3, p4, p5, p6, p7⟩ := box_push HB1.out (by decide) HROW.out hown' hgrow; have hc1 := p1.cell; have hf1 := p1.frozen; have hky := ky_push (B := w.heap.size) HB1.out (by decide) (by decide) HROW.out hgrow (by omega) (Nat.le_refl _) (.slice (some ⟨g', 0, none⟩) (L + 1) cap'); have hbm := kept_push HB1.out (by decide) (by decide) HROW.out hgrow (.slice (some ⟨g', 0, none⟩) (L + 1) cap') HH.out.bm))
      refine ⟨p4.from _, hky, _, p2, hbm, ?_, fun y hy => ?_, HH.out.below.trans (p6 _ (by omega) (Nat.le_refl _) hsz2), ?_⟩
      · rw [List.length_append, List.length_singleton, ← HL.out, rowD_app]
        have e : rowD [x] = dcells x := by simp [rowD]
        rw [e, HDC.out]
        exact p3
      · rcases List.mem_append.1 hy with hy | hy
        · exact ms_kq (HH.out.ms y hy) hky.1
        · simp at hy; subst hy; exact ms_kq HMX.out hky.1
      · rw [List.length_append, List.length_singleton, ← HL.out]; exact hL2
  case done =>
    rintro D ys Wc hD hS ⟨lv, H⟩ hK
    have e1 := H.b1.cell
    have HH := hid H
    have HS := hid hS
    clear H hS
    gi_wp2
    refine ⟨by simp, .inl ⟨_, _, rfl, run_takeDeferred hK, ?_⟩⟩
    have H2 := HH.out.kept (grownBy_putObj' Wc D (.deferred none)) (fun r e => by cases e; exact ⟨Nat.le_trans HWB.out hD, _, hK, rfl⟩)
    refine ⟨_, results_tmp rfl _ _ _, lv, ys, rfl, H2.row, ?_, H2.ms, H2.below⟩
    rw [HS.out, List.take_of_length_le]
    have h9 := congrArg List.length HS.out
    rw [List.length_map] at h9
    rw [← h9]; exact H2.le
  case stop =>
    rintro D c pre Wc hD hp ⟨rfl, p1, x, lv, rfl, hm, H⟩ hK
    have e1 := H.b1.cell
    have HH := hid H
    have HS := hid hp
    have HM := hid hm
    clear H hp hm
    gi_wp2
    refine ⟨by simp, .inl ⟨_, _, rfl, run_takeDeferred hK, ?_⟩⟩
    have H2 := HH.out.kept (grownBy_putObj' Wc D (.deferred none)) (fun r e => by cases e; exact ⟨Nat.le_trans HWB.out hD, _, hK, rfl⟩)
    refine ⟨_, results_tmp rfl _ _ _, lv, p1, rfl, H2.row, ?_, H2.ms, H2.below⟩
    have hlen : p1.length = most.toNat := by have h1 := H2.le; have h2 := HM.out; omega
    obtain ⟨r, hr⟩ := HS.out
    rw [← hr, List.map_append, List.append_assoc, ← hlen]
    have : p1.length = (p1.map vrp).length := by simp
    rw [this, List.take_left' rfl]
end Go.Proofs.Ytplckmoeaeabgaa

namespace Go.Proofs.Ytplckmoeaeabgaa
open Go Go.ChangeShapes Go.WideShapes Go.ChangeAt Go.RowKit

theorem row_at {W : World} {B e k n : Nat} {v : Value} {xs : List Value} (h : W.ownsRow B e k v n xs) (hn : 0 < n) : ∃ g cap, v = .slice (some ⟨g, 0, none⟩) n cap ∧ AtL W g 0 xs ∧ n ≤ cap ∧ cap ≤ 9223372036854775807 ∧ g < W.heap.size := by
  obtain ⟨g, cap, rfl, hc, hm⟩ := own_form1 h hn
  refine ⟨g, cap, rfl, fun j u hj => ?_, hc, hm, ?_⟩
  · have hl : j < xs.length := (List.getElem?_eq_some_iff.1 hj).1
    rw [h.1] at hl
    rw [Nat.zero_add, h.cellAt j hl]; exact hj
  · rcases h.2 with ⟨h1, _⟩ | ⟨g', cap', cur, h1, _, hg, _⟩
    · cases h1
    · cases h1; exact lt_of_heap hg
/-- A value and how deep it is, out of a row. -/
theorem rowD_at {W : World} {g : Nat} {l : List (Int × Mv)} {q : Nat} {x : Int × Mv} (h : AtL W g 0 (rowD l)) (hx : l[q]? = some x) : W.cell? ⟨g, q * 5, none⟩ = some (.int .i64 x.1) ∧ AtL W g (q * 5 + 1) x.2.cells := by
  have hq : q < l.length := (List.getElem?_eq_some_iff.1 hx).1
  have e : rowD l = rowD (l.take q) ++ (dcells x ++ rowD (l.drop (q + 1))) := by
    have h1 : l = l.take q ++ (x :: l.drop (q + 1)) := by
      have h2 := List.getElem?_eq_some_iff.1 hx
      rw [← h2.2, ← List.drop_eq_getElem_cons hq, List.take_append_drop]
    conv => lhs; rw [h1]
    rw [rowD_app]
    congr 1
  have hlq : (rowD (l.take q)).length = q * 5 := by rw [rowD_len, List.length_take, Nat.min_eq_left (by omega)]
  have hd : ∀ j u, (dcells x)[j]? = some u → W.cell? ⟨g, q * 5 + j, none⟩ = some u := fun j u hu => by
    have hj : j < (dcells x).length := (List.getElem?_eq_some_iff.1 hu).1
    have h1 : (rowD l)[q * 5 + j]? = some u := by
      rw [e, List.getElem?_append_right (by omega), hlq, Nat.add_sub_cancel_left, List.getElem?_append_left hj]; exact hu
    have h2 := h _ _ h1
    rw [Nat.zero_add] at h2; exact h2
  refine ⟨hd 0 _ rfl, fun j u hu => ?_⟩
  rw [Nat.add_assoc, Nat.add_comm 1 j]
  exact hd (j + 1) u (by simpa [dcells] using hu)
theorem AtL.below' {W W' : World} {B b o : Nat} {cs : List Value} (h : AtL W b o cs) (hb : b < B) (hB : Below B W W') : AtL W' b o cs := fun j v hv => by
  have h1 := h j v hv
  rw [World.cell?_of_block (w := W) (w' := W') (a := ⟨b, o + j, none⟩) (hB.block b hb)]; exact h1
/-- A row of values and how deep they are, in memory. -/
def RowF (W : World) (a : Option Addr) (l : List (Int × Mv)) : Prop := ∀ (q : Nat) x, l[q]? = some x → ∃ g, a = some ⟨g, 0, none⟩ ∧ W.cell? ⟨g, q * 5, none⟩ = some (.int .i64 x.1) ∧ AtL W g (q * 5 + 1) x.2.cells ∧ MS W (fun b => b < W.heap.size) x.2 ∧ g < W.heap.size
theorem RowF.of {W : World} {B n c : Nat} {a : Option Addr} {l : List (Int × Mv)} (h : W.ownsRow B 48 5 (.slice a n c) n (rowD l)) (hm : ∀ x ∈ l, MS W (fun b => b < W.heap.size) x.2) : RowF W a l := fun q x hx => by
  have hq : q < l.length := (List.getElem?_eq_some_iff.1 hx).1
  have hn : l.length = n := by have h1 := h.1; rw [rowD_len] at h1; omega
  obtain ⟨g, cap, hv, hat, _, _, hg⟩ := row_at h (by omega)
  cases hv
  obtain ⟨h1, h2⟩ := rowD_at hat hx
  exact ⟨g, rfl, h1, h2, hm x (List.mem_of_getElem? hx), hg⟩
theorem RowF.below {W W' : World} {a : Option Addr} {l : List (Int × Mv)} (h : RowF W a l) (hB : Below W.heap.size W W') : RowF W' a l := fun q x hx => by
  obtain ⟨g, h1, h2, h3, h4, h5⟩ := h q x hx
  refine ⟨g, h1, (hB.cell (lt_cell h2)).trans h2, h3.below' h5 hB, (h4.ks (ks_below hB)).weak (fun b hb => Nat.lt_of_lt_of_le hb hB.size), Nat.lt_of_lt_of_le h5 hB.size⟩
theorem LB.lt {B : Nat} {w : World} (hB : B ≤ w.heap.size) : ∀ b, LB B w b → b < w.heap.size := fun b hb => by
  rcases hb with h | h
  · omega
  · exact h.lt
set_option maxRecDepth 100000 in
theorem load_v {o : Oper} {f : Operand → Value} {p : Operand} {b off : Nat} {cs : List Value} {W : World} (ho : o.op = .load 24 p) (hp : f p = .pointer (some ⟨b, off, none⟩)) (h : AtL W b off cs) (hl : cs.length = 4) : (execOp f o).run Try.prog W = .ok (.value (.agg cs.toArray)) W := by
  have h1 := h.run (P := Try.prog)
  have h2 : (loadVar 24 ⟨b, off, none⟩).run Try.prog W = .ok (.agg cs.toArray) W := by
    obtain ⟨i0, hi, _, hz1, _⟩ := info_parts infoVar
    rw [hl] at h1
    simp [loadVar, sizeOf, typeInfo, hi, hz1, loadCells, h1]
  unfold execOp
  simp only [ho, hp, Instr.loadAt, Instr.sureAddr, Sem.run_bind, Sem.run_pure, Result.andThen_ok, h2]
theorem walkV_len : ∀ (m : Mv) (d : Int), (walkV m.vr d).length = (walkM m d).length := fun m d => by rw [← walkM_vr, List.length_map]
theorem walkM_pos (m : Mv) (d : Int) : 0 < (walkM m d).length := by cases m; rw [walkM_mk]; simp
set_option maxHeartbeats 4000000 in
set_option maxRecDepth 100000 in
theorem VariantWalks_any (w : World) (v : Vr) (cs : List Value) (stop : Int) (h : VIn w w.heap.size v cs) (hN : cntV v ≤ 1048576) (hst : -9223372036854775808 ≤ stop ∧ stop ≤ 9223372036854775807) :
    Calls Try.prog 7 #[.agg cs.toArray, .int .i64 stop] w fun e w' => e = .returned (.bool true) ∧ Below w.heap.size w w' := by
  obtain ⟨m, rfl, rfl, hms⟩ := VS.tree h
  obtain ⟨w1, hw1⟩ : ∃ w1, w1 = w.alloc (.cells m.cells.toArray 24) := ⟨_, rfl⟩
  have hb1 : Below w.heap.size w w1 := by rw [hw1]; exact (Below.refl _ _).alloc (Nat.le_refl _) _
  have hx1 : w1.heap[w.heap.size]? = some (.cells m.cells.toArray 24 (0, 0)) := by rw [hw1]; exact heap_alloc_new _ _
  have hm1 : ∀ W, Below w1.heap.size w1 W → MS W (fun b => b < W.heap.size) m := fun W hW =>
    (hms.ks (ks_below (hb1.trans (hW.mono hb1.size)))).weak (fun b hb => Nat.lt_of_lt_of_le hb (Nat.le_trans hb1.size hW.size))
  have HM1 := hid hm1
  have HRW := hid (RWalk_any m 0 w1 (hm1 w1 (Below.refl _ _)) hN)
  have HAW := hid (fun W => awake_any W)
  have HWL := hid (fun (W : World) (hW : Below w1.heap.size w1 W) (most : Int) (hmo : -9223372036854775808 ≤ most ∧ most ≤ 1048576) => callsIn_wide.1 (walked_in 5 (Nat.le_refl _) W m.vr m.cells most ((hm1 W hW).vs) hN hmo))
  have HVV := hid (fun W (hW : Below w1.heap.size w1 W) => box_cells ((hW.block w.heap.size (lt_of_heap hx1)).trans hx1))
  have HX1 := hid hx1
  have HB1 := hid hb1
  have HW1 := hid hw1
  have HNN := hid hN
  have HWP := hid (walkM_pos m 0)
  clear h hN hms hb1 hx1 hm1 hw1
  dsimp only [Mv.cells] at HRW HWL HW1
  obtain ⟨N, hNl⟩ : ∃ N, N = (walkM m 0).length := ⟨_, rfl⟩
  have HNL := hid hNl
  unfold DPost at HRW
  rw [← hNl] at HRW HWP
  have hN20 : N ≤ 1048576 := by rw [hNl, walk_cnt]; exact HNN.out
  clear hNl
  dsimp only [Mv.cells]
  obtain ⟨xk, hxk⟩ : ∃ z, z = m.k := ⟨_, rfl⟩
  obtain ⟨xn, hxn⟩ : ∃ z, z = m.n := ⟨_, rfl⟩
  obtain ⟨xs, hxs⟩ : ∃ z, z = strI m.s := ⟨_, rfl⟩
  obtain ⟨xa, hxa⟩ : ∃ z, z = m.a := ⟨_, rfl⟩
  obtain ⟨xl, hxl⟩ : ∃ z, z = m.l.length := ⟨_, rfl⟩
  obtain ⟨xc, hxc⟩ : ∃ z, z = m.c := ⟨_, rfl⟩
  rw [← hxk, ← hxn, ← hxs, ← hxa, ← hxl, ← hxc] at HRW HWL HW1 HVV ⊢
  have HCL := hid (show m.cells = [.int .i64 xk, .int .i64 xn, .string xs, .slice xa xl xc] by rw [hxk, hxn, hxs, hxa, hxl, hxc]; rfl)
  clear hxk hxn hxs hxa hxl hxc
  obtain ⟨c0, c1, c2, c3⟩ := HVV.out w1 (Below.refl _ _)
  go_enter Try.func7, Try.ntmps7
  go_upto_region 1 with (fail)
  rw [← HW1.out]
  go_wp2_with fail
  refine HRW.out.mono ?_
  rintro e w2 ⟨lv, rfl, hrow, hb2⟩
  obtain ⟨g0, k0, rfl, hat0, hk0, hk1, hg0⟩ := row_at hrow HWP.out
  have HAT0 := hid hat0
  have HB2 := hid hb2
  clear hrow hat0 hb2 HRW c0 c1 c2 c3
  by_cases hbig : 2000 < N
  · have hd : decide ((2000 : Int) < N) = true := by simp; omega
    clear hbig
    go_wp2_with fail
    refine (HAW.out _).mono ?_
    rintro e w3 ⟨rfl, hb3⟩
    have HB3 := hid (HB1.out.trans ((HB2.out.trans (hb3.mono HB2.out.size)).mono HB1.out.size))
    clear hb3
    go_wp2
    go_ret
    exact ⟨rfl, HB3.out⟩
  · have hd : decide ((2000 : Int) < N) = false := by simp; omega
    have hN2 : N ≤ 2000 := by omega
    have hwN : IntKind.i64.wrap ((N : Int) + 1) = ((N + 1 : Nat) : Int) := by rw [IntWalk.i64_in _ (by omega)]; omega
    obtain ⟨k, hk, hkN⟩ : ∃ k : Nat, stop % ((N + 1 : Nat) : Int) = (k : Int) ∧ k ≤ N := by
      have h1 := Int.emod_nonneg stop (show ((N + 1 : Nat) : Int) ≠ 0 by omega)
      have h2 := Int.emod_lt_of_pos stop (show 0 < ((N + 1 : Nat) : Int) by omega)
      exact ⟨(stop % ((N + 1 : Nat) : Int)).toNat, by omega, by omega⟩
    have HPK := hid (fun W => Pick_any stop ((N + 1 : Nat) : Int) W hst (by omega) (by omega))
    rw [hk] at HPK
    clear hk hbig
    obtain ⟨M, hM⟩ : ∃ M, M = N + 1 := ⟨_, rfl⟩
    rw [← hM] at HPK hwN
    clear hM
    go_wp2_with fail
    refine (HPK.out _).mono ?_
    rintro e w3 ⟨rfl, rfl⟩
    clear HPK hwN
    go_upto_region 5 with (fail)
    have hwant : RowF w2 (some ⟨g0, 0, none⟩) (walkM m 0) := fun q x hx => by
      obtain ⟨h1, h2⟩ := rowD_at HAT0.out hx
      exact ⟨g0, rfl, h1, h2, (HM1.out w2 HB2.out).walk (List.mem_of_getElem? hx), hg0⟩
    have HWANT := hid hwant
    clear hwant HAT0
    refine C.wp_region_mix [1, 2, 1, 0, 2, 0, 0] (fun W => Below w1.heap.size w1 W) (by kernel_rfl) (by kernel_rfl) HB2.out.drew ?_
    repeat (first
      | (refine' C.wpMix_value _ rfl rfl _ _; rotate_left; (solve | (intro W; go_simp) | (intro W; go_simp; with_reducible rfl)); simp only [Act.put, List.setIfInBounds_toArray, List.set_cons_zero, List.set_cons_succ])
      | (refine' C.wpMix_read _ rfl rfl _ _; rotate_left; (solve | (intro W hS; obtain ⟨v0, v1, v2, v3⟩ := HVV.out W hS; go_simp) | (intro W hS; obtain ⟨v0, v1, v2, v3⟩ := HVV.out W hS; go_simp; with_reducible rfl)); simp only [Act.put, List.setIfInBounds_toArray, List.set_cons_zero, List.set_cons_succ]))
    refine C.wpMix_call 22 #[.agg #[.int .i64 xk, .int .i64 xn, .string xs, .slice xa xl xc], .int .i64 5000] (by decide) rfl (by go_simp) ?_
    refine (HWL.out _ HB2.out.drew 5000 (by omega)).mono ?_
    rintro e w4 ⟨lv1, l1, rfl, hr1, he1, hm1, hb4⟩
    have hb4' : Below w2.heap.size w2 w4 := (Below.refl _ w2).drew.trans hb4
    have HB4 := hid (HB2.out.trans (hb4'.mono HB2.out.size))
    have HW4 := hid (HWANT.out.below hb4')
    have hl1 : l1.length = N := by
      have h1 := congrArg List.length he1
      rw [List.length_map, List.length_take, walkV_len, ← HNL.out] at h1
      have h2 : (5000 : Int).toNat = 5000 := rfl
      rw [h2] at h1; omega
    rw [hl1] at hr1
    obtain ⟨a1, k1, rfl⟩ := own_form hr1
    have HR1 := hid (RowF.of hr1 (fun x hx => (hm1 x hx).weak (LB.lt hb4.size)))
    have HE1 := hid (show l1.map vrp = (walkM m 0).map vrp by
      rw [he1, walkM_vr, List.take_of_length_le]
      rw [walkV_len, ← HNL.out]
      have h2 : (5000 : Int).toNat = 5000 := rfl
      omega)
    have HK1 := hid (own_cap hr1)
    clear hr1 he1 hm1 hb4 hb4' HWANT
    refine ⟨_, rfl, fun _ => HB4.out, ?_⟩
    simp only [Act.put, List.setIfInBounds_toArray, List.set_cons_zero, List.set_cons_succ]
    repeat (first
      | (refine' C.wpMix_value _ rfl rfl _ _; rotate_left; (solve | (intro W; go_simp) | (intro W; go_simp; with_reducible rfl)); simp only [Act.put, List.setIfInBounds_toArray, List.set_cons_zero, List.set_cons_succ])
      | (refine' C.wpMix_read _ rfl rfl _ _; rotate_left; (solve | (intro W hS; obtain ⟨v0, v1, v2, v3⟩ := HVV.out W hS; go_simp) | (intro W hS; obtain ⟨v0, v1, v2, v3⟩ := HVV.out W hS; go_simp; with_reducible rfl)); simp only [Act.put, List.setIfInBounds_toArray, List.set_cons_zero, List.set_cons_succ]))
    refine C.wpMix_call 22 #[.agg #[.int .i64 xk, .int .i64 xn, .string xs, .slice xa xl xc], .int .i64 (k : Int)] (by decide) rfl (by go_simp) ?_
    refine (HWL.out _ HB4.out (k : Int) (by omega)).mono ?_
    rintro e w5 ⟨lv2, l2, rfl, hr2, he2, hm2, hb5⟩
    have HB5 := hid (HB4.out.trans (hb5.mono HB4.out.size))
    have HW5 := hid (HW4.out.below hb5)
    have HR15 := hid (HR1.out.below hb5)
    have hl2 : l2.length = k := by
      have h1 := congrArg List.length he2
      rw [List.length_map, List.length_take, walkV_len, ← HNL.out] at h1
      have h2 : (k : Int).toNat = k := Int.toNat_natCast k
      rw [h2] at h1; omega
    rw [hl2] at hr2
    obtain ⟨a2, k2, rfl⟩ := own_form hr2
    have HR2 := hid (RowF.of hr2 (fun x hx => (hm2 x hx).weak (LB.lt hb5.size)))
    have HE2 := hid (show l2.map vrp = ((walkM m 0).map vrp).take k by rw [he2, walkM_vr, Int.toNat_natCast])
    have HK2 := hid (own_cap hr2)
    have HL1 := hid hl1
    have HL2 := hid hl2
    clear hr2 he2 hm2 hb5 HB4 HW4 HR1 hl1 hl2 HWL
    refine ⟨_, rfl, fun _ => HB5.out, ?_⟩
    simp only [Act.put, List.setIfInBounds_toArray, List.set_cons_zero, List.set_cons_succ]
    repeat (first
      | (refine' C.wpMix_value _ rfl rfl _ _; rotate_left; (solve | (intro W; go_simp) | (intro W; go_simp; with_reducible rfl)); simp only [Act.put, List.setIfInBounds_toArray, List.set_cons_zero, List.set_cons_succ])
      | (refine' C.wpMix_read _ rfl rfl _ _; rotate_left; (solve | (intro W hS; obtain ⟨v0, v1, v2, v3⟩ := HVV.out W hS; go_simp) | (intro W hS; obtain ⟨v0, v1, v2, v3⟩ := HVV.out W hS; go_simp; with_reducible rfl)); simp only [Act.put, List.setIfInBounds_toArray, List.set_cons_zero, List.set_cons_succ]))
    refine C.wpMix_end ?_
    go_upto_region 10 with (fail)
    obtain ⟨i0, hi, hz0, hz1, hz2⟩ := info_parts info64
    have hi' := hid hi
    have hz0' := hid hz0
    have hz1' := hid hz1
    have hz2' := hid hz2
    have HR00 : RowKit.Hid (w5.ownsRow w5.heap.size 49 1 (.slice none 0 0) (refL ((walkM m 0).take 0)).length (ul (refL ((walkM m 0).take 0)))) := hid (World.ownsRow_nil _ _ _ _)
    clear hi hz0 hz1 hz2 hd
    go_loopw [9, 10] (fun rv iv wr => ∃ q : Nat, q ≤ N ∧ iv = .int .i64 q ∧ RowKit.Hid (wr.ownsRow w5.heap.size 49 1 rv (refL ((walkM m 0).take q)).length (ul (refL ((walkM m 0).take q)))) ∧ RowKit.Hid (Below w5.heap.size w5 wr)) (fun _ iv _ => N - (intOf iv).toNat)
    case atStart => exact ⟨0, by omega, rfl, HR00, hid (Below.refl _ _)⟩
    case round =>
      clear HR00
      obtain ⟨q, hq, rfl, HRV, HBr⟩ := hrel
      by_cases hqN : q < N
      · have hx : (walkM m 0)[q]? = some ((walkM m 0)[q]'(by rw [← HNL.out]; exact hqN)) := List.getElem?_eq_getElem _
        generalize (walkM m 0)[q]'(by rw [← HNL.out]; exact hqN) = x at hx
        obtain ⟨y, hy, hvy⟩ : ∃ y, l1[q]? = some y ∧ vrp y = vrp x := by
          have h1 := congrArg (fun l => l[q]?) HE1.out
          simp only [List.getElem?_map, hx, Option.map_some] at h1
          cases hy : l1[q]? with
          | none => rw [hy] at h1; cases h1
          | some y => rw [hy] at h1; exact ⟨y, rfl, Option.some.inj h1⟩
        have hvp : (y.1, y.2.vr) = (x.1, x.2.vr) := hvy
        have hvd : y.1 = x.1 := (Prod.mk.inj hvp).1
        have hvv : y.2.vr = x.2.vr := (Prod.mk.inj hvp).2
        clear hvp
        obtain ⟨g1, rfl, _⟩ := HR15.out q y hy
        have HFX := hid (fun W (hW : Below wr.heap.size wr W) => ((HW5.out.below HBr.out).below hW) q x hx)
        have HFY := hid (fun W (hW : Below wr.heap.size wr W) => ((HR15.out.below HBr.out).below hW) q y hy)
        have HXD := hid (fun W (hW : Below wr.heap.size wr W) => show W.cell? ⟨g0, q * 5, none⟩ = some (.int .i64 x.1) from by obtain ⟨g, e, h1, _⟩ := HFX.out W hW; cases e; exact h1)
        have HXA := hid (fun W (hW : Below wr.heap.size wr W) => show AtL W g0 (q * 5 + 1) x.2.cells from by obtain ⟨g, e, _, h1, _⟩ := HFX.out W hW; cases e; exact h1)
        have HYD := hid (fun W (hW : Below wr.heap.size wr W) => show W.cell? ⟨g1, q * 5, none⟩ = some (.int .i64 x.1) from by obtain ⟨g, e, h1, _⟩ := HFY.out W hW; cases e; rw [← hvd]; exact h1)
        have HYA := hid (fun W (hW : Below wr.heap.size wr W) => show AtL W g1 (q * 5 + 1) y.2.cells from by obtain ⟨g, e, _, h1, _⟩ := HFY.out W hW; cases e; exact h1)
        have HS1 := hid (fun W (hW : Below wr.heap.size wr W) => show Calls Try.prog 18 #[.agg y.2.cells.toArray, .agg x.2.cells.toArray] W (fun e W' => e = .returned (.bool true) ∧ Below wr.heap.size wr W') from by
          obtain ⟨_, _, _, _, hmy, _⟩ := HFY.out W hW
          obtain ⟨_, _, _, _, hmx, _⟩ := HFX.out W hW
          refine (Same_any y.2.vr x.2.vr _ _ W hmy.vs hmx.vs).mono ?_
          rintro e W' ⟨⟨r, rfl, hr⟩, hb⟩
          rw [hr.2 hvv]
          exact ⟨rfl, below_on hW hb⟩)
        have HXL := hid (show x.2.cells.length = 4 from rfl)
        have HYL := hid (show y.2.cells.length = 4 from rfl)
        have HXC := hid (show x.2.cells = [.int .i64 x.2.k, .int .i64 x.2.n, .string (strI x.2.s), .slice x.2.a x.2.l.length x.2.c] from rfl)
        have HX := hid hx
        have hk1' := HK1.out
        have hk2' := HK2.out
        obtain ⟨xcs, hxcs⟩ : ∃ c, c = x.2.cells := ⟨_, rfl⟩
        obtain ⟨yc, hyc⟩ : ∃ c, c = y.2.cells := ⟨_, rfl⟩
        rw [← hxcs] at HXA HXL HXC HS1
        rw [← hyc] at HYA HYL HS1
        clear hx hy hvy hvd hvv hyc HFY
        by_cases hqk : q < k
        · obtain ⟨z, hz, hvz⟩ : ∃ z, l2[q]? = some z ∧ z.2.vr = x.2.vr := by
            have h1 := congrArg (fun l => l[q]?) HE2.out
            simp only [List.getElem?_map, List.getElem?_take, if_pos hqk, HX.out, Option.map_some] at h1
            cases hz : l2[q]? with
            | none => rw [hz] at h1; cases h1
            | some z => rw [hz] at h1; exact ⟨z, rfl, (Prod.mk.inj (show (z.1, z.2.vr) = (x.1, x.2.vr) from Option.some.inj h1)).2⟩
          obtain ⟨g2, rfl, _⟩ := HR2.out q z hz
          have HFZ := hid (fun W (hW : Below wr.heap.size wr W) => ((HR2.out.below HBr.out).below hW) q z hz)
          have HZA := hid (fun W (hW : Below wr.heap.size wr W) => show AtL W g2 (q * 5 + 1) z.2.cells from by obtain ⟨g, e, _, h1, _⟩ := HFZ.out W hW; cases e; exact h1)
          have HS2 := hid (fun W (hW : Below wr.heap.size wr W) => show Calls Try.prog 18 #[.agg z.2.cells.toArray, .agg xcs.toArray] W (fun e W' => e = .returned (.bool true) ∧ Below wr.heap.size wr W') from by
            obtain ⟨_, _, _, _, hmz, _⟩ := HFZ.out W hW
            obtain ⟨_, _, _, _, hmx, _⟩ := HFX.out W hW
            rw [hxcs]
            refine (Same_any z.2.vr x.2.vr _ _ W hmz.vs hmx.vs).mono ?_
            rintro e W' ⟨⟨r, rfl, hr⟩, hb⟩
            rw [hr.2 hvz]
            exact ⟨rfl, below_on hW hb⟩)
          have HZL := hid (show z.2.cells.length = 4 from rfl)
          obtain ⟨zc, hzc⟩ : ∃ c, c = z.2.cells := ⟨_, rfl⟩
          rw [← hzc] at HZA HZL HS2
          have hqkI : ((q : Int) < (k : Int)) := by omega
          have hdk : decide ((q : Int) < (k : Int)) = true := by simpa using hqkI
          clear hz hvz hzc hxcs HFZ HFX
          go_upto_region 12 with (fail)
          refine wp_region_sure (fun W => Below wr.heap.size wr W) (by kernel_rfl) (by kernel_rfl) ((Below.refl _ wr).drew) ?_
          repeat (first
            | (refine wpSure_not rfl ?_; simp only [Act.put, List.setIfInBounds_toArray, List.set_cons_zero, List.set_cons_succ])
            | ((with_reducible refine atS ⟨some 60, _, _, _, _, _⟩ ?_); refine wpSure_read (.agg yc.toArray) rfl (fun W hS => load_v rfl rfl (HYA.out W hS) HYL.out) ?_; simp only [Act.put, List.setIfInBounds_toArray, List.set_cons_zero, List.set_cons_succ])
            | ((with_reducible refine atS ⟨some 65, _, _, _, _, _⟩ ?_); refine wpSure_read (.agg xcs.toArray) rfl (fun W hS => load_v rfl rfl (HXA.out W hS) HXL.out) ?_; simp only [Act.put, List.setIfInBounds_toArray, List.set_cons_zero, List.set_cons_succ])
            | ((with_reducible refine atS ⟨some 66, _, _, _, _, _⟩ ?_); refine wpSure_call _ _ _ rfl ?_ (fun W hS => HS1.out W hS) ?_; (solve | (intro W; go_simp)); simp only [Act.put, List.setIfInBounds_toArray, List.set_cons_zero, List.set_cons_succ])
            | ((with_reducible refine atS ⟨some 78, _, _, _, _, _⟩ ?_); refine wpSure_read (.agg zc.toArray) rfl (fun W hS => load_v rfl rfl (HZA.out W hS) HZL.out) ?_; simp only [Act.put, List.setIfInBounds_toArray, List.set_cons_zero, List.set_cons_succ])
            | ((with_reducible refine atS ⟨some 83, _, _, _, _, _⟩ ?_); refine wpSure_read (.agg xcs.toArray) rfl (fun W hS => load_v rfl rfl (HXA.out W hS) HXL.out) ?_; simp only [Act.put, List.setIfInBounds_toArray, List.set_cons_zero, List.set_cons_succ])
            | ((with_reducible refine atS ⟨some 84, _, _, _, _, _⟩ ?_); refine wpSure_call _ _ _ rfl ?_ (fun W hS => HS2.out W hS) ?_; (solve | (intro W; go_simp)); simp only [Act.put, List.setIfInBounds_toArray, List.set_cons_zero, List.set_cons_succ])
            | (refine' wpSure_value _ rfl _ _; rotate_left; (solve | (intro W; go_simp) | (intro W; go_simp; with_reducible rfl)); simp only [Act.put, List.setIfInBounds_toArray, List.set_cons_zero, List.set_cons_succ])
            | (refine' wpSure_read _ rfl _ _; rotate_left; (solve | (intro W hS; have e1 := HYD.out W hS; have e2 := HXD.out W hS; go_simp) | (intro W hS; have e1 := HYD.out W hS; have e2 := HXD.out W hS; go_simp; with_reducible rfl)); simp only [Act.put, List.setIfInBounds_toArray, List.set_cons_zero, List.set_cons_succ]))
          refine wpSure_end (fun w6 hS6 => ?_)
          obtain ⟨x0, x1, _, _⟩ := row_cells (by have := HXA.out w6 hS6; rw [HXC.out] at this; exact this)
          have hrow6 : w6.ownsRow w5.heap.size 49 1 u9 (refL ((walkM m 0).take q)).length (ul (refL ((walkM m 0).take q))) := (Fr.of_below (fp := fun _ => False) hS6).owns HRV.out (fun _ _ h => h)
          have hB6 := HBr.out.trans (hS6.mono HBr.out.size)
          have hsz6 := hB6.size
          obtain ⟨ra, rk, hrv⟩ := own_form hrow6
          have hplen : (refL ((walkM m 0).take q)).length ≤ 2000 := by
            have h3 := refL_le ((walkM m 0).take q)
            have h4 : ((walkM m 0).take q).length ≤ q := by rw [List.length_take]; omega
            omega
          have hnx : (walkM m 0).take (q + 1) = (walkM m 0).take q ++ [x] := by rw [List.take_add_one, HX.out]; rfl
          have HROW6 := hid hrow6
          have HB6 := hid hB6
          have HNX := hid hnx
          clear hrow6 hB6 hS6 hnx HXA HXD HYA HYD HS1 HRV HBr
          subst hrv
          by_cases h5 : x.2.k = 5
          · have d5 : (x.2.k == 5) = true := by simpa using h5
            have HR5 := hid (show refL ((walkM m 0).take (q + 1)) = refL ((walkM m 0).take q) ++ [x.2.n % 18446744073709551616] by rw [HNX.out, refL_app]; simp [refL, h5])
            have hw := wrap_u64_mod x.2.n
            obtain ⟨z, hz⟩ : ∃ z, z = x.2.n % 18446744073709551616 := ⟨_, rfl⟩
            rw [← hz] at HR5 hw
            clear h5 hz
            go_wp2_with (at_builtin; refine wpList_append_own_at _ (o := ⟨some 104, _, _, _, _, _⟩) rfl (.tmp 95) (.tmp 103) 46 rfl w5.heap.size 49 i0 (.int .u64 0) 1 8 Try.underlying46 hi'.out hz0'.out hz1'.out hz2'.out rfl (by decide) (.slice ra (refL ((walkM m 0).take q)).length rk) (refL ((walkM m 0).take q)).length _ rfl (HROW6.out.alloc _) ⟨w6.heap.size, 0, none⟩ 1 1 [.int .u64 z] rfl rfl (World.news_of_block (heap_alloc_new w6 _)) (by simp [Value.oneCell']) (by unfold maxLen; omega) (by omega) (by simp; omega) ?_; intro v7 w7 hown7 hgrow7 hnil7 hat7; have HO7 := hid hown7; have HG7 := hid hgrow7; clear hown7 hgrow7 hnil7 hat7)
            have HB7 := hid ((HB6.out.alloc hsz6 _).grown HG7.out (by simp; omega) (fun r hr => (HROW6.out.lt r hr).1))
            have HR7 := hid (show w7.ownsRow w5.heap.size 49 1 v7 (refL ((walkM m 0).take (q + 1))).length (ul (refL ((walkM m 0).take (q + 1)))) by
              rw [HR5.out, List.length_append]
              have h9 := HO7.out
              unfold ul at h9 ⊢
              rw [List.map_append]
              exact h9)
            clear HO7 HG7
            go_roundw
            case rel => exact ⟨q + 1, by omega, by go_num, HR7, HB7⟩
            case measure => simp [intOf]; omega
          · have d5 : (x.2.k == 5) = false := by simpa using h5
            have HR5 := hid (show refL ((walkM m 0).take (q + 1)) = refL ((walkM m 0).take q) by rw [HNX.out, refL_app]; simp [refL, h5])
            clear h5
            go_wp2
            go_roundw
            case rel => exact ⟨q + 1, by omega, by go_num, by rw [HR5.out]; exact HROW6, HB6⟩
            case measure => simp [intOf]; omega
        · have hdk : decide ((q : Int) < (k : Int)) = false := by simp; omega
          clear hxcs HFX
          go_upto_region 12 with (fail)
          refine wp_region_sure (fun W => Below wr.heap.size wr W) (by kernel_rfl) (by kernel_rfl) ((Below.refl _ wr).drew) ?_
          repeat (first
            | (refine wpSure_not rfl ?_; simp only [Act.put, List.setIfInBounds_toArray, List.set_cons_zero, List.set_cons_succ])
            | ((with_reducible refine atS ⟨some 60, _, _, _, _, _⟩ ?_); refine wpSure_read (.agg yc.toArray) rfl (fun W hS => load_v rfl rfl (HYA.out W hS) HYL.out) ?_; simp only [Act.put, List.setIfInBounds_toArray, List.set_cons_zero, List.set_cons_succ])
            | ((with_reducible refine atS ⟨some 65, _, _, _, _, _⟩ ?_); refine wpSure_read (.agg xcs.toArray) rfl (fun W hS => load_v rfl rfl (HXA.out W hS) HXL.out) ?_; simp only [Act.put, List.setIfInBounds_toArray, List.set_cons_zero, List.set_cons_succ])
            | ((with_reducible refine atS ⟨some 66, _, _, _, _, _⟩ ?_); refine wpSure_call _ _ _ rfl ?_ (fun W hS => HS1.out W hS) ?_; (solve | (intro W; go_simp)); simp only [Act.put, List.setIfInBounds_toArray, List.set_cons_zero, List.set_cons_succ])
            | (refine' wpSure_value _ rfl _ _; rotate_left; (solve | (intro W; go_simp) | (intro W; go_simp; with_reducible rfl)); simp only [Act.put, List.setIfInBounds_toArray, List.set_cons_zero, List.set_cons_succ])
            | (refine' wpSure_read _ rfl _ _; rotate_left; (solve | (intro W hS; have e1 := HYD.out W hS; have e2 := HXD.out W hS; go_simp) | (intro W hS; have e1 := HYD.out W hS; have e2 := HXD.out W hS; go_simp; with_reducible rfl)); simp only [Act.put, List.setIfInBounds_toArray, List.set_cons_zero, List.set_cons_succ]))
          refine wpSure_end (fun w6 hS6 => ?_)
          obtain ⟨x0, x1, _, _⟩ := row_cells (by have := HXA.out w6 hS6; rw [HXC.out] at this; exact this)
          have hrow6 : w6.ownsRow w5.heap.size 49 1 u9 (refL ((walkM m 0).take q)).length (ul (refL ((walkM m 0).take q))) := (Fr.of_below (fp := fun _ => False) hS6).owns HRV.out (fun _ _ h => h)
          have hB6 := HBr.out.trans (hS6.mono HBr.out.size)
          have hsz6 := hB6.size
          obtain ⟨ra, rk, hrv⟩ := own_form hrow6
          have hplen : (refL ((walkM m 0).take q)).length ≤ 2000 := by
            have h3 := refL_le ((walkM m 0).take q)
            have h4 : ((walkM m 0).take q).length ≤ q := by rw [List.length_take]; omega
            omega
          have hnx : (walkM m 0).take (q + 1) = (walkM m 0).take q ++ [x] := by rw [List.take_add_one, HX.out]; rfl
          have HROW6 := hid hrow6
          have HB6 := hid hB6
          have HNX := hid hnx
          clear hrow6 hB6 hS6 hnx HXA HXD HYA HYD HS1 HRV HBr
          subst hrv
          by_cases h5 : x.2.k = 5
          · have d5 : (x.2.k == 5) = true := by simpa using h5
            have HR5 := hid (show refL ((walkM m 0).take (q + 1)) = refL ((walkM m 0).take q) ++ [x.2.n % 18446744073709551616] by rw [HNX.out, refL_app]; simp [refL, h5])
            have hw := wrap_u64_mod x.2.n
            obtain ⟨z, hz⟩ : ∃ z, z = x.2.n % 18446744073709551616 := ⟨_, rfl⟩
            rw [← hz] at HR5 hw
            clear h5 hz
            go_wp2_with (at_builtin; refine wpList_append_own_at _ (o := ⟨some 104, _, _, _, _, _⟩) rfl (.tmp 95) (.tmp 103) 46 rfl w5.heap.size 49 i0 (.int .u64 0) 1 8 Try.underlying46 hi'.out hz0'.out hz1'.out hz2'.out rfl (by decide) (.slice ra (refL ((walkM m 0).take q)).length rk) (refL ((walkM m 0).take q)).length _ rfl (HROW6.out.alloc _) ⟨w6.heap.size, 0, none⟩ 1 1 [.int .u64 z] rfl rfl (World.news_of_block (heap_alloc_new w6 _)) (by simp [Value.oneCell']) (by unfold maxLen; omega) (by omega) (by simp; omega) ?_; intro v7 w7 hown7 hgrow7 hnil7 hat7; have HO7 := hid hown7; have HG7 := hid hgrow7; clear hown7 hgrow7 hnil7 hat7)
            have HB7 := hid ((HB6.out.alloc hsz6 _).grown HG7.out (by simp; omega) (fun r hr => (HROW6.out.lt r hr).1))
            have HR7 := hid (show w7.ownsRow w5.heap.size 49 1 v7 (refL ((walkM m 0).take (q + 1))).length (ul (refL ((walkM m 0).take (q + 1)))) by
              rw [HR5.out, List.length_append]
              have h9 := HO7.out
              unfold ul at h9 ⊢
              rw [List.map_append]
              exact h9)
            clear HO7 HG7
            go_roundw
            case rel => exact ⟨q + 1, by omega, by go_num, HR7, HB7⟩
            case measure => simp [intOf]; omega
          · have d5 : (x.2.k == 5) = false := by simpa using h5
            have HR5 := hid (show refL ((walkM m 0).take (q + 1)) = refL ((walkM m 0).take q) by rw [HNX.out, refL_app]; simp [refL, h5])
            clear h5
            go_wp2
            go_roundw
            case rel => exact ⟨q + 1, by omega, by go_num, by rw [HR5.out]; exact HROW6, HB6⟩
            case measure => simp [intOf]; omega
      · obtain rfl : q = N := by omega
        have hall : (walkM m 0).take q = walkM m 0 := List.take_of_length_le (by rw [← HNL.out]; exact Nat.le_refl _)
        rw [hall] at HRV
        clear hall
        have hW15 := HB5.out.trans (HBr.out.mono HB5.out.size)
        obtain ⟨c0, c1, c2, c3⟩ := HVV.out wr hW15
        have HRF := hid (callsIn_wide.1 (Refs_in 3 (Nat.le_refl _) wr m (HM1.out wr hW15) (by rw [walk_cnt]; exact HNN.out)))
        obtain ⟨ra, rk, hrv⟩ := own_form HRV.out
        subst hrv
        have hrl : (refL (walkM m 0)).length ≤ 1048576 := by
          have h3 := refL_le (walkM m 0)
          have := HNL.out
          omega
        rw [HCL.out] at HRF
        have hd9 : decide ((q : Int) < (q : Int)) = false := by simp
        go_wp2_with fail
        refine HRF.out.mono ?_
        rintro e w7 ⟨lv, rfl, hr7, hb7⟩
        obtain ⟨fa, fk, rfl⟩ := own_form hr7
        have hown1 := owns_low hr7 HBr.out.size
        have hown2 := (Fr.of_below (fp := fun _ => False) hb7).owns HRV.out (fun _ _ h => h)
        have HSL := hid (SameLongs_same w7 w5.heap.size fa ra fk rk _ _ hown1 hown2 (by omega))
        have HB7 := hid (hW15.trans (hb7.mono hW15.size))
        clear hr7 hb7 hown1 hown2 HRF hW15 c0 c1 c2 c3
        go_wp2_with fail
        refine HSL.out.mono ?_
        rintro e w8 ⟨rfl, hb8⟩
        have HB8 := hid (HB7.out.trans (hb8.mono HB7.out.size))
        clear hb8 HSL HB7
        go_wp2_with fail
        refine (HAW.out _).mono ?_
        rintro e w9 ⟨rfl, hb9⟩
        have HB9 := hid (HB1.out.trans ((HB8.out.trans (hb9.mono HB8.out.size)).mono HB1.out.size))
        clear hb9 HB8
        go_wp2
        go_ret
        exact ⟨rfl, HB9.out⟩
end Go.Proofs.Ytplckmoeaeabgaa

namespace Go.Proofs.Ytplckmoeaeabgaa.variantWalks
open Go Go.ChangeShapes Go.WideShapes Go.ChangeAt Go.RowKit

set_option maxRecDepth 100000 in
theorem lifted (os : Os) (started : os.Started) (H : Type) (enc : TypeId × Value → H) (F : Stop.Interp) :
    ReturnsInHanded {} Try.checked os 7 .any ((Rows.OpenSpec.upto Rows.variantWalksSpec).pre6 enc Try.prog Try.f7 Rows.variantWalksUptoRow.domain false) (((Rows.OpenSpec.upto Rows.variantWalksSpec).at F).post enc Try.prog Try.f7 false true false false) := by
  refine returnsInHanded_of_cond (C := Try.checked) (s := Rows.OpenSpec.upto Rows.variantWalksSpec) (k := Rows.uptoSmall) rfl own started (by kernel_rfl) Try.func7
    (OpenSpec.witness (enc := enc) (C := Try.checked) (s := Rows.OpenSpec.upto Rows.variantWalksSpec) (k := Rows.uptoSmall) rfl false ⟨#[], #[.agg #[.int .i64 0, .int .i64 0, .string ⟨#[]⟩, .slice none 0 0], .int .i64 0], []⟩ 8 (by kernel_rfl) (by kernel_rfl) (by kernel_rfl)
      (x := ([.agg [.lit (.int .i64 0), .lit (.int .i64 0), .lit (.string []), .nil], .lit (.int .i64 0)], [], [])) (by kernel_rfl) rfl (by kernel_rfl)) ?_
  intro W base args ds gs before hval0 hW _ hk _
  have hval : ∀ (j : Nat) t v, Try.f7.params[j]? = some t → args[j]? = some v → Value.okWide Try.prog W .any base t v := hval0
  have hW' := hW
  obtain ⟨p, q, hA0, hV, rfl, hfz, hnd⟩ := hW
  have hA : DataW.TrodAll enc Try.prog W 0 (fun _ => true) true Try.f7.params.toList args.toList ds p := hA0
  rw [Try.params7] at hA hval
  obtain ⟨v0, vs0, d0, ds0, p0, q0, hargs, rfl, rfl, r_0, s_0⟩ := trodAll_cons hA
  obtain ⟨v1, vs1, d1, ds1, p1, q1, rfl, rfl, rfl, r_1, s_1⟩ := trodAll_cons s_0
  obtain ⟨rfl, rfl, rfl⟩ := trodAll_nil s_1
  obtain rfl : args = #[v0, v1] := by cases args; simp_all
  obtain ⟨rfl, rfl⟩ := trodVars_none hV
  have k0 := r_0
  have lt0 : ∀ x ∈ p0, x.block < W.heap.size := by obtain ⟨m, hm⟩ := k0; exact DataW.trod_lt m _ _ _ hm
  obtain ⟨x0, cs0, rfl, h0, b0⟩ := open_var (hval 0 24 v0 rfl rfl) r_0
  have k1 := r_1
  have lt1 : ∀ x ∈ p1, x.block < W.heap.size := by obtain ⟨m, hm⟩ := k1; exact DataW.trod_lt m _ _ _ hm
  obtain ⟨a1, rfl, _, _, h1⟩ := open_int Try.underlying3 (hval 1 3 v1 rfl rfl) r_1
  have hb := of_decide_eq_true hk
  simp only [List.append_nil, Rows.uptoBulkAll] at hb
  clear hA0 hval0 hk
  refine (VariantWalks_any W x0 cs0 a1 h0 (by omega) (bounds_i64 h1)).mono fun e W' ⟨he, bel⟩ => ?_
  subst he
  exact ⟨_, rfl, _, _, _, [], _, [], hW', trodAll_mk1 (shut_bool Try.underlying4 _), (trodAll_cons_mk (Below.trod laidOut (by kernel_rfl) (of_decide_eq_true (by kernel_rfl)) k0 bel lt0) (trodAll_cons_mk (Below.trod laidOut (by kernel_rfl) (of_decide_eq_true (by kernel_rfl)) k1 bel lt1) trodAll_mk0)), rfl, bel.frame _, fun h => by cases h⟩

theorem over : Rows.variantWalksUptoRow.holds Try.pinned (Rows.OpenSpec.upto Rows.variantWalksSpec) :=
  OpenClaim.holds_of_cond 7 Try.f7 rfl rfl rfl rfl rfl rfl rfl ⟨rfl, rfl, rfl, rfl, rfl⟩ rfl rfl rfl rfl rfl (by kernel_rfl) Try.func7 (by kernel_rfl)
    (of_decide_eq_true (by kernel_rfl)) (by unfold Func.isWrapper; first | (rw [if_pos (by decide +kernel)]; kernel_rfl) | (rw [if_neg (by decide +kernel)]; exact ⟨rfl, rfl⟩))
    (fun os started H enc _ F => lifted os started H enc F)

theorem proved : Rows.VariantWalksUptoSaid := over
#print axioms proved
end Go.Proofs.Ytplckmoeaeabgaa.variantWalks
