/-
  The law's helper that collects what a table tells: its contract.
-/
import Derived.Test.YtmampaglemleoabWkH
import Derived.Test.YtmampaglemleoabHpR
import Derived.Test.YtmampaglemleoabScope
import Derived.Sort.QuietIn
namespace Go.Proofs.Ytmampaglemleoab
open Go Go.ChangeShapes Go.WideShapes Go.ChangeAt Go.RowKit Go.Shelf
attribute [local go_sem] Oper.semAt_some

set_option maxRecDepth 100000 in
theorem infoUw : (Try.prog.info? 35).map (fun i => (i.zero, i.size, i.bytes)) = some (some (.int .u64 0), 1, 8) := by kernel_rfl
theorem seqB_not_nil (f : Nat) (fv : Array Value) (W : World) : (binOp .neq 80 (.func (.func f) #[] fv) .nilFunc).run Try.prog W = .ok (.bool true) W := by kernel_rfl
def fs (l : List (Int × Int)) : List Int := l.map (·.1)
def sn (l : List (Int × Int)) : List Int := l.map (·.2)
theorem fs_app (l : List (Int × Int)) (x : Int × Int) : (fs (l ++ [x])).map u64v = (fs l).map u64v ++ [.int .u64 x.1] := by simp [fs]
theorem sn_app (l : List (Int × Int)) (x : Int × Int) : (sn (l ++ [x])).map u64v = (sn l).map u64v ++ [.int .u64 x.2] := by simp [sn]
theorem fs_len (l : List (Int × Int)) : (fs l).length = l.length := by simp [fs]
theorem sn_len (l : List (Int × Int)) : (sn l).length = l.length := by simp [sn]
/-- Between two rounds: both rows in their boxes. -/
structure LW (w : World) (n0 : Nat) (m : Int) (pre : List (Int × Int)) (u v : Value) (W : World) : Prop where
  b0 : Boxed W w.heap.size 3 (.int .i64 m)
  b1 : Boxed W (w.heap.size + 1) 31 u
  b2 : Boxed W (w.heap.size + 2) 31 v
  r1 : W.ownsRow n0 35 1 u pre.length ((fs pre).map u64v)
  r2 : W.ownsRow n0 35 1 v pre.length ((sn pre).map u64v)
  ne : ∀ g, u.ownBlock = some g → v.ownBlock ≠ some g
  ml : (pre.length : Int) ≤ m
  below : Below w.heap.size w W
  sz : n0 ≤ W.heap.size
theorem LW.kept {w : World} {n0 : Nat} {m : Int} {pre : List (Int × Int)} {u v : Value} {W W' : World} {row : Option Nat} (h : LW w n0 m pre u v W) (hg : W.grownBy W' row) (hr : ∀ r, row = some r → w.heap.size ≤ r ∧ ∃ o : Obj, W.heap[r]? = some o ∧ o.isCells = false) : LW w n0 m pre u v W' :=
  have hr' := fun r e => (hr r e).2
  ⟨h.b0.kept hg (not_cells h.b0 hr'), h.b1.kept hg (not_cells h.b1 hr'), h.b2.kept hg (not_cells h.b2 hr'), owns_not_cells h.r1 hg hr', owns_not_cells h.r2 hg hr', h.ne, h.ml, h.below.grown hg h.below.size (fun k e => (hr k e).1), Nat.le_trans h.sz hg.size⟩
def LWs (w : World) (n0 : Nat) (m : Int) (pre : List (Int × Int)) (W : World) : Prop := ∃ u v, LW w n0 m pre u v W
theorem LWs.ownFrom (w : World) (n0 : Nat) (m : Int) (B : Nat) (hB : w.heap.size ≤ B) : OwnFrom B (LWs w n0 m) := fun _ _ _ _ ⟨u, v, h⟩ hg hr =>
  ⟨u, v, h.kept hg (fun r e => ⟨Nat.le_trans hB (hr r e).1, (hr r e).2⟩)⟩
def LWx (w : World) (n0 : Nat) (m : Int) (c : Code) (ps : List (Int × Int)) (W : World) : Prop := c = .exit 0 ∧ ∃ pre x, ps = pre ++ [x] ∧ (pre.length : Int) = m ∧ LWs w n0 m pre W
theorem LWx.ownFrom (w : World) (n0 : Nat) (m : Int) (B : Nat) (hB : w.heap.size ≤ B) (c : Code) : OwnFrom B (LWx w n0 m c) := fun _ W W' row ⟨hc, pre, x, h1, h2, h3⟩ hg hr =>
  ⟨hc, pre, x, h1, h2, LWs.ownFrom w n0 m B hB pre W W' row h3 hg hr⟩
def ToldP (w : World) (l : List (Int × Int)) (m : Nat) (e : Ending) (w' : World) : Prop :=
  Below w.heap.size w w' ∧ ∃ v1 v2, e = .returned (.tuple #[v1, v2]) ∧ Told TU u64v w' v1 ((fs l).take m) ∧ Told TU u64v w' v2 ((sn l).take m)
/-- An iterator that tells l. -/
def BlkT (w : World) (a : Option Addr) (l : List (Int × Int)) : Prop := ∀ w1 Bp, Below w.heap.size w w1 → w.heap.size ≤ Bp → Boxed w1 Bp 23 (.pointer a) →
  ∀ n, 3 ≤ n → Tells Fence.wide n Try.prog 35 #[.pointer (some ⟨Bp, 0, none⟩)] encB (fun _ _ => True) (KT (fun k => k < w.heap.size) KTyW) (fun ys => ys = l) (fun pre => pre <+: l) w1
set_option maxRecDepth 100000 in
set_option maxHeartbeats 4000000 in
theorem told_in (n : Nat) (hn : 4 ≤ n) (w : World) (a : Option Addr) (l : List (Int × Int)) (m : Nat) (hT : BlkT w a l) (hm : m ≤ 100000) :
    CallsIn Fence.wide n Try.prog 13 #[.pointer a, .int .i64 m] w (ToldP w l m) := by
  have h1 : 1 ≤ n := by omega
  obtain ⟨i0, hi, hz0, hz1, hz2⟩ := info_parts infoUw
  obtain ⟨mi, hmi⟩ : ∃ mi : Int, mi = (m : Int) := ⟨_, rfl⟩
  rw [← hmi]
  have hmi2 : 0 ≤ mi ∧ mi ≤ 100000 := by omega
  obtain ⟨w1, hw1⟩ : ∃ w1, w1 = ((w.alloc (.cells #[.int .i64 mi] 3)).alloc (.cells #[.slice none 0 0] 31)).alloc (.cells #[.slice none 0 0] 31) := ⟨_, rfl⟩
  have hb1 : Below w.heap.size w w1 := by rw [hw1]; exact (((Below.refl _ _).alloc (Nat.le_refl _) _).alloc (by simp) _).alloc (by simp; omega) _
  have hsz1 : w1.heap.size = w.heap.size + 3 := by rw [hw1]; simp
  have b0 := ((Boxed.new w 3 (.int .i64 mi)).alloc (.cells #[.slice none 0 0] 31)).alloc (.cells #[.slice none 0 0] 31)
  have b1 := (Boxed.new (w.alloc (.cells #[.int .i64 mi] 3)) 31 (.slice none 0 0)).alloc (.cells #[.slice none 0 0] 31)
  have b2 := Boxed.new ((w.alloc (.cells #[.int .i64 mi] 3)).alloc (.cells #[.slice none 0 0] 31)) 31 (.slice none 0 0)
  simp only [World.size_alloc] at b1 b2
  rw [← hw1] at b0 b1 b2
  have HM := hid hmi
  clear hmi hm
  have HC := hid (Blocks_any w1 a)
  have HT := hid hT
  have HB0 := hid b0
  have HB1 := hid b1
  have HB2 := hid b2
  have HBW := hid hb1
  have HW1 := hid hw1
  have HZ1 := hid hsz1
  clear hT b0 b1 b2 hb1 hw1 hsz1
  refine callsIn_of_wp_marks Try.func13 rfl trivial ?_ rfl
  simp only [Try.ntmps13, List.size_toArray, List.length_cons, List.length_nil, Nat.reduceAdd, Nat.reduceSub, Array.replicate_succ, Array.replicate_zero, List.push_toArray, List.append_toArray, List.nil_append, List.cons_append]
  have hq := seqB_not_nil
  gi_wp2
  rw [← HW1.out]
  first
    | refine ⟨trivial, (fun h => by cases h), (callsIn_wide.2 HC.out).mono ?_⟩
    | refine ⟨trivial, (callsIn_wide.2 HC.out).mono ?_⟩
    | refine (callsIn_wide.2 HC.out).mono ?_
  rintro e w2 ⟨rfl, hw2⟩
  have hb2 : Below w1.heap.size w1 w2 := by rw [hw2]; exact (Below.refl _ _).alloc (Nat.le_refl _) _
  have hbw := HBW.out.trans (hb2.mono HBW.out.size)
  have hsz2 : w2.heap.size = w.heap.size + 4 := by rw [hw2]; simp [HZ1.out]
  have hsz : w.heap.size + 3 ≤ w2.heap.size := by omega
  have hbx : Boxed w2 w1.heap.size 23 (.pointer a) := by rw [hw2]; exact Boxed.new _ _ _
  have hst := HT.out w2 w1.heap.size hbw (by have := HZ1.out; omega) hbx (n - 1) (by omega)
  have hb1s : Boxed w2 (w.heap.size + 1) 31 (.slice none 0 0) := (hb2.block _ HB1.out.lt).trans HB1.out
  have hb2s : Boxed w2 (w.heap.size + 1 + 1) 31 (.slice none 0 0) := (hb2.block _ HB2.out.lt).trans HB2.out
  have hLW : LW w w2.heap.size mi [] (.slice none 0 0) (.slice none 0 0) w2 := ⟨(hb2.block _ HB0.out.lt).trans HB0.out, hb1s, hb2s, World.ownsRow_nil _ _ _ _, World.ownsRow_nil _ _ _ _, (fun g h => by cases h), by simpa using hmi2.1, hbw, Nat.le_refl _⟩
  have HST := hid hst
  have HLW := hid hLW
  have HZ := hid hsz
  clear hst hLW hbw hb1s hb2s hb2 hbx HC HW1 HB0 HB1 HB2 hsz hsz2 hw2 HT
  gi_wp2
  clear hq
  refine rangeFunc_mem rfl h1 (gf := 35) (lb := #[.pointer (some ⟨w1.heap.size, 0, none⟩)]) rfl trivial (enters_of Try.func35 (by kernel_rfl) rfl)
    HST.out (fun h k => h.t k) (fun W l o o' _ h2 h3 _ => KT.b _ _ W l o o' h2 h3) (fun _ => rfl)
    (LWs w w2.heap.size mi) (LWx w w2.heap.size mi) (LWs.ownFrom w w2.heap.size mi _ (by have := HZ.out; omega)) (LWx.ownFrom w w2.heap.size mi _ (by have := HZ.out; omega)) ⟨_, _, HLW.out⟩
    (fun pre x a' W => LWs w w2.heap.size mi pre W ∧ a' = { tmps := #[.pointer a, .int .i64 mi, undef, .pointer (some ⟨w.heap.size, 0, none⟩), .slice none 0 0, .slice none 0 0, .pointer (some ⟨w.heap.size + 1, 0, none⟩), .pointer (some ⟨w.heap.size + 2, 0, none⟩), .func (.func 35) #[] #[.pointer (some ⟨w1.heap.size, 0, none⟩)], .int .u64 x.1, .int .u64 x.2, .pointer a, .func (.func 35) #[] #[.pointer (some ⟨w1.heap.size, 0, none⟩)], .func (.func 35) #[] #[.pointer (some ⟨w1.heap.size, 0, none⟩)], .bool true, .func (.func 35) #[] #[.pointer (some ⟨w1.heap.size, 0, none⟩)], .int .u64 x.1, .int .u64 x.2, undef, undef, undef, undef, undef, undef, undef, undef, undef, undef, undef, undef, undef, undef], defers := [] })
    (fun pre x a' _ X Y row hs hg hr => ⟨LWs.ownFrom w w2.heap.size mi _ (by have := HZ.out; omega) pre X Y row hs.1 hg hr, hs.2⟩) ?assign ?body ?done ?stop
  case assign =>
    rintro lp pre x W K hI _ hK
    have HK := hid hK
    have HII := hid hI
    clear hK hI
    simp only [encB]
    gi_wp2
    exact HK.out _ _ (KeepsFrom.refl _ _) (KT.refl _ _ _) ⟨HII.out, rfl⟩
  case body =>
    rintro lp pre x a' W hl ⟨r, hr⟩ ⟨⟨u, v, H⟩, rfl⟩
    have HH := hid H
    have e0 := H.b0.cell
    have e1 := H.b1.cell
    have f1 := H.b1.frozen
    have hml := H.ml
    obtain ⟨la, lk, rfl⟩ := own_form H.r1
    obtain ⟨ua, uk, rfl⟩ := own_form H.r2
    obtain ⟨x1, x2⟩ := x
    simp only
    clear H hl hr
    by_cases hfull : (pre.length : Int) = mi
    · have hge : decide (mi ≤ (pre.length : Int)) = true := by simp; omega
      have HF := hid hfull
      clear hfull
      gi_wp2
      exact ⟨KeepsFrom.refl _ _, rfl, pre, _, rfl, HF.out, _, _, HH.out⟩
    · have hge : decide (mi ≤ (pre.length : Int)) = false := by simp; omega
      have hlt : (pre.length : Int) < mi := by omega
      clear hfull
      have H := HH.out
      have hsz := H.sz
      have hzz := HZ.out
      gi_upto_region 9 with (first
        | (gi_at_builtin; refine wpListIn_append_at _ rfl _ _ 31 rfl w2.heap.size 35 i0 (.int .u64 0) 1 8 Try.underlying31 hi hz0 hz1 hz2 rfl (by decide) _ _ _ rfl (H.r1.alloc _) ⟨W.heap.size, 0, none⟩ 1 1 [.int .u64 x1] rfl rfl (cell_one_new _ _ _) (by simp [Value.oneCell']) (by simp only [maxLen]; omega) (by omega) (by simp; omega) ?_; intro v' w3 hown' hgrow hat; obtain ⟨g', cap', rfl⟩ := ownsRow_succ hown'; obtain ⟨p1, p2, p3, p4, p5, p6, p7⟩ := box_push H.b1 (by decide) H.r1 hown' hgrow; obtain ⟨o2, on⟩ := other_row H.b1 (by decide) hgrow hat H.r2 H.ne; have hc1 := p1.cell; have hf1 := p1.frozen))
      have hkt := box_pushT H.b1 (T := KTyW) (by unfold KTyW; decide) (by unfold KTyW; decide) H.r1 hgrow (p5 (fun k => k < w.heap.size) (fun h => by omega) (fun k h1 h2 => by omega))
      have b0' := p7 _ _ _ H.b0 (by omega) (by omega)
      have b2' := p7 _ _ _ H.b2 (by omega) (by omega)
      have hb1 := p6 w.heap.size (by omega) (by omega) H.below.size
      obtain ⟨w4, hw4⟩ : ∃ w4, w4 = w3.setCell ⟨w.heap.size + 1, 0, none⟩ (.slice (some ⟨g', 0, none⟩) (pre.length + 1) cap') := ⟨_, rfl⟩
      rw [← hw4] at p2 p3 p4 o2 b0' b2' hkt hb1 ⊢
      have P2 := hid p2
      have P3 := hid p3
      have P4 := hid p4
      have O2 := hid o2
      have B0 := hid b0'
      have B2 := hid b2'
      have HKT := hid hkt
      have HBL := hid (H.below.trans hb1)
      have ON := hid (show ∀ g, (Value.slice ua pre.length uk).ownBlock = some g → (Value.slice (some ⟨g', 0, none⟩) (pre.length + 1) cap').ownBlock ≠ some g from fun g h1 h2 => on g h2 h1)
      have hsz4 : w2.heap.size ≤ w4.heap.size := Nat.le_trans hsz p4.size
      have e2 := b2'.cell
      have f2 := b2'.frozen
      clear p1 p2 p3 p4 p5 p6 p7 o2 on hc1 hf1 b0' b2' hkt hb1 hw4 hgrow hat hown' e0 e1 f1
      gi_wp2_with (first
        | (gi_at_builtin; refine wpListIn_append_at _ rfl _ _ 31 rfl w2.heap.size 35 i0 (.int .u64 0) 1 8 Try.underlying31 hi hz0 hz1 hz2 rfl (by decide) _ _ _ rfl (O2.out.alloc _) ⟨w4.heap.size, 0, none⟩ 1 1 [.int .u64 x2] rfl rfl (cell_one_new _ _ _) (by simp [Value.oneCell']) (by simp only [maxLen]; omega) (by omega) (by simp; omega) ?_; intro v' w5 hown' hgrow hat; obtain ⟨g2, cap2, rfl⟩ := ownsRow_succ hown'; obtain ⟨p1, p2, p3, p4, p5, p6, p7⟩ := box_push B2.out (by decide) O2.out hown' hgrow; obtain ⟨o2, on⟩ := other_row B2.out (by decide) hgrow hat P3.out ON.out; have hc1 := p1.cell; have hf1 := p1.frozen))
      have hkt2 := box_pushT B2.out (T := KTyW) (by unfold KTyW; decide) (by unfold KTyW; decide) O2.out hgrow (p5 (fun k => k < w.heap.size) (fun h => by omega) (fun k h1 h2 => by omega))
      refine ⟨(P4.out.trans p4).from _, HKT.out.t hkt2, _, _, p7 _ _ _ B0.out (by omega) (by omega), p7 _ _ _ P2.out (by omega) (by omega), p2, ?_, ?_, fun g h1 h2 => on g h2 h1, ?_, HBL.out.trans (p6 _ (by omega) (by omega) HBL.out.size), Nat.le_trans hsz4 p4.size⟩
      · rw [List.length_append, fs_app]; exact o2
      · rw [List.length_append, sn_app]; exact p3
      · simp; omega
  case done =>
    rintro D ys W hD hyL ⟨u, v, H⟩ hK
    subst hyL
    have hml := H.ml
    have e1 := H.b1.cell
    have e2 := H.b2.cell
    have HH := hid H
    have HK := hid hK
    have HD := hid hD
    obtain ⟨a1, c1, rfl⟩ := own_form H.r1
    obtain ⟨a2, c2, rfl⟩ := own_form H.r2
    have R1 := hid H.r1
    have R2 := hid H.r2
    clear H hK hD
    gi_upto_region 10 with (fail)
    refine G.wp_region_mix [1, 1, 0, 0] (fun W' => W'.cell? ⟨w.heap.size + 1, 0, none⟩ = some (.slice a1 ys.length c1) ∧ W'.cell? ⟨w.heap.size + 2, 0, none⟩ = some (.slice a2 ys.length c2)) (by kernel_rfl) (by kernel_rfl) ⟨e1, e2⟩ ?_
    repeat (first
      | (refine' E.wpMix_value _ rfl rfl _ _; rotate_left; (solve | (intro W; go_simp) | (intro W; go_simp; with_reducible rfl)); simp only [Act.put, List.setIfInBounds_toArray, List.set_cons_zero, List.set_cons_succ])
      | (refine' E.wpMix_read _ rfl rfl _ _; rotate_left; (solve | (rintro W ⟨h1, h2⟩; go_simp) | (rintro W ⟨h1, h2⟩; go_simp; with_reducible rfl)); simp only [Act.put, List.setIfInBounds_toArray, List.set_cons_zero, List.set_cons_succ]))
    refine E.wpMix_end ?_
    gi_wp2
    have hK' : W.drew.heap[D]? = some (.deferred (some [])) := HK.out
    refine ⟨by simp, .inl ⟨_, _, rfl, run_takeDeferred hK', ?_⟩⟩
    have hd := (Below.refl W.heap.size W).drew
    have q1 := ownsRow_putObj ((Fr.of_below (fp := fun _ => False) hd).owns R1.out (fun _ _ h => h)) (.deferred none) hK' rfl
    have q2 := ownsRow_putObj ((Fr.of_below (fp := fun _ => False) hd).owns R2.out (fun _ _ h => h)) (.deferred none) hK' rfl
    have t1 := (⟨by rw [fs_len]; exact q1, fun _ _ h => h⟩ : RowS TU u64v (fun _ => False) w2.heap.size _ _ (fs ys)).told
    have t2 := (⟨by rw [sn_len]; exact q2, fun _ _ h => h⟩ : RowS TU u64v (fun _ => False) w2.heap.size _ _ (sn ys)).told
    refine ⟨.tuple #[.slice a1 ys.length c1, .slice a2 ys.length c2], ?_, ?_, _, _, rfl, ?_, ?_⟩
    · simp [results, Try.f13, go_sem]
    · exact (HH.out.below.trans (hd.mono HH.out.below.size)).trans (belowK_b (w := w) (Nat.le_refl _) _ D _ _ (by have := HD.out; have := HZ.out; omega) hK' rfl rfl)
    · rw [List.take_of_length_le (by rw [fs_len]; have := HM.out; omega)]; exact t1
    · rw [List.take_of_length_le (by rw [sn_len]; have := HM.out; omega)]; exact t2
  case stop =>
    rintro D c pre0 W hD hp ⟨rfl, pre, x, rfl, hl, u, v, H⟩ hK
    have hpr := List.prefix_iff_eq_take.1 ((List.prefix_append pre [x]).trans hp)
    have HP := hid hpr
    clear hp hpr
    have e1 := H.b1.cell
    have e2 := H.b2.cell
    have HH := hid H
    have HK := hid hK
    have HD := hid hD
    obtain ⟨a1, c1, rfl⟩ := own_form H.r1
    obtain ⟨a2, c2, rfl⟩ := own_form H.r2
    have R1 := hid H.r1
    have R2 := hid H.r2
    clear H hK hD
    gi_upto_region 10 with (fail)
    refine G.wp_region_mix [1, 1, 0, 0] (fun W' => W'.cell? ⟨w.heap.size + 1, 0, none⟩ = some (.slice a1 pre.length c1) ∧ W'.cell? ⟨w.heap.size + 2, 0, none⟩ = some (.slice a2 pre.length c2)) (by kernel_rfl) (by kernel_rfl) ⟨e1, e2⟩ ?_
    repeat (first
      | (refine' E.wpMix_value _ rfl rfl _ _; rotate_left; (solve | (intro W; go_simp) | (intro W; go_simp; with_reducible rfl)); simp only [Act.put, List.setIfInBounds_toArray, List.set_cons_zero, List.set_cons_succ])
      | (refine' E.wpMix_read _ rfl rfl _ _; rotate_left; (solve | (rintro W ⟨h1, h2⟩; go_simp) | (rintro W ⟨h1, h2⟩; go_simp; with_reducible rfl)); simp only [Act.put, List.setIfInBounds_toArray, List.set_cons_zero, List.set_cons_succ]))
    refine E.wpMix_end ?_
    gi_wp2
    have hK' : W.drew.heap[D]? = some (.deferred (some [])) := HK.out
    refine ⟨by simp, .inl ⟨_, _, rfl, run_takeDeferred hK', ?_⟩⟩
    have hd := (Below.refl W.heap.size W).drew
    have q1 := ownsRow_putObj ((Fr.of_below (fp := fun _ => False) hd).owns R1.out (fun _ _ h => h)) (.deferred none) hK' rfl
    have q2 := ownsRow_putObj ((Fr.of_below (fp := fun _ => False) hd).owns R2.out (fun _ _ h => h)) (.deferred none) hK' rfl
    have t1 := (⟨by rw [fs_len]; exact q1, fun _ _ h => h⟩ : RowS TU u64v (fun _ => False) w2.heap.size _ _ (fs pre)).told
    have t2 := (⟨by rw [sn_len]; exact q2, fun _ _ h => h⟩ : RowS TU u64v (fun _ => False) w2.heap.size _ _ (sn pre)).told
    have hmm : m = pre.length := by have := HM.out; omega
    have e3 : (fs l).take m = fs pre := by rw [hmm]; conv => rhs; rw [HP.out]
                                           simp [fs, List.map_take]
    have e4 : (sn l).take m = sn pre := by rw [hmm]; conv => rhs; rw [HP.out]
                                           simp [sn, List.map_take]
    refine ⟨.tuple #[.slice a1 pre.length c1, .slice a2 pre.length c2], ?_, ?_, _, _, rfl, ?_, ?_⟩
    · simp [results, Try.f13, go_sem]
    · exact (HH.out.below.trans (hd.mono HH.out.below.size)).trans (belowK_b (w := w) (Nat.le_refl _) _ D _ _ (by have := HD.out; have := HZ.out; omega) hK' rfl rfl)
    · rw [e3]; exact t1
    · rw [e4]; exact t2
theorem told_any (w : World) (a : Option Addr) (l : List (Int × Int)) (m : Nat) (hT : BlkT w a l) (hm : m ≤ 100000) : Calls Try.prog 13 #[.pointer a, .int .i64 m] w (ToldP w l m) :=
  (callsIn_wide (n := 4)).1 (told_in 4 (by omega) w a l m hT hm)
end Go.Proofs.Ytmampaglemleoab
