/- WkH WkI in one -/
import Derived.Test.YtmampaglemleoabWkF
import Derived.Test.YtmampaglemleoabAeL
import Derived.Test.YtmampaglemleoabMixR
import Derived.Sort.CutIn
import Derived.Test.YtmampaglemleoabHpR
import Derived.Test.YtmampaglemleoabScope
import Derived.Sort.QuietIn
namespace Go.Proofs.Ytmampaglemleoab
open Go Go.ChangeShapes Go.WideShapes Go.ChangeAt Go.RowKit Go.Maps Go.Shelf
attribute [local go_sem] Oper.semAt_some

/-- A block's target. -/
def tgt (L : WL) (h : Int) : Int := ((fb L h).map (·.t)).getD 0
def pj (L : WL) (y : Int × Int) : Int × Int := (y.1, tgt L y.1)
def encB (x : Int × Int) : Array Value := #[.int .u64 x.1, .int .u64 x.2]
/-- What a table tells. -/
def bls (A : Ar) (L : WL) : List (Int × Int) := (pairF 0 A.L).map (pj L)
theorem pairF_mem : ∀ (L : List Spot) (k : Nat) (x : Int × Int), x ∈ pairF k L → ∃ (i : Nat) (s : Spot), L[i]? = some s ∧ s.t = true ∧ x = (hand (k + i) s.g, s.x)
  | [], _, _, h => by cases h
  | a :: L, k, x, h => by
    unfold pairF at h
    have hrec : x ∈ pairF (k + 1) L → ∃ (i : Nat) (s : Spot), (a :: L)[i]? = some s ∧ s.t = true ∧ x = (hand (k + i) s.g, s.x) := fun h => by
      obtain ⟨i, s, h1, h2, h3⟩ := pairF_mem L (k + 1) x h
      exact ⟨i + 1, s, by simpa using h1, h2, by rw [h3]; congr 2; omega⟩
    split at h
    · rename_i ht
      rcases List.mem_cons.1 h with rfl | h
      · exact ⟨0, a, rfl, ht, by simp⟩
      · exact hrec h
    · exact hrec h
theorem pairF_er : ∀ (L : List Spot) (k : Nat), (pairF k (L.map e0)).map (·.1) = (pairF k L).map (·.1)
  | [], _ => rfl
  | a :: L, k => by
    have ih := pairF_er L (k + 1)
    rw [List.map_cons]
    unfold pairF
    have e1 : (e0 a).t = a.t := rfl
    have e2 : (e0 a).g = a.g := rfl
    rw [e1, e2]
    cases a.t with
    | true => simp only [if_true, List.map_cons]; rw [ih]
    | false => simp only [Bool.false_eq_true, if_false]; exact ih
theorem bls_er (A : Ar) (L : WL) : bls (er A) L = bls A L := by
  have h : ∀ l : List (Int × Int), l.map (pj L) = (l.map (·.1)).map fun h => (h, tgt L h) := fun l => by simp [pj]
  unfold bls
  rw [h, h]
  show ((pairF 0 (A.L.map e0)).map (·.1)).map _ = _
  rw [pairF_er]
section
variable {w w' : World} {p pa pm : Nat} {Sa : Nat → Prop} {AA : Ar} {D : DataW Unit} {B : Int → Nat} {L : WL} {fp : Nat → Prop}
theorem WkW.told (h : WkW w p pa pm Sa AA D B L) {x : Int × Int} (hx : x ∈ pairF 0 AA.L) : ∃ b ∈ L, b.h = x.1 ∧ x.2 = ((B b.h + 1 : Nat) : Int) := by
  obtain ⟨i, s, h1, h2, rfl⟩ := pairF_mem _ _ _ hx
  rw [Nat.zero_add]
  obtain ⟨b, hb, e⟩ := h.co i s h1 h2
  obtain ⟨j, r, g1, g2, g3, g4⟩ := h.pl b hb
  obtain ⟨_, e2⟩ := Found.same h.ar.ok (h := b.h) ⟨h1, h2, e⟩ ⟨g1, g2, g3⟩
  exact ⟨b, hb, e, by rw [← g4, e2]⟩
/-- The types of what the iterator keeps: the places' copy, what it calls, the blocks. -/
def KTyW (t : TypeId) : Prop := t = 101 ∨ t = 61 ∨ t = 85
/-- Between two rounds. -/
structure BlI (lp Y : Nat) (B : Int → Nat) (L : WL) (J : List (Int × Int) → World → Prop) (pre : List (Int × Int)) (W : World) : Prop where
  j : J (pre.map (pj L)) W
  y : W.heap[Y]? = some (.cells #[.func (.yield lp) #[] #[]] 61 (0, 0))
  c : ∀ b ∈ L, W.heap[B b.h]? = some (.cells #[.int .u64 b.t, .int .u32 b.n] 85 (0, 0))
theorem Blocks_any (w : World) (a : Option Addr) : Calls Try.prog 28 #[.pointer a] w fun e w' => e = .returned (.func (.func 35) #[] #[.pointer (some ⟨w.heap.size, 0, none⟩)]) ∧ w' = w.alloc (.cells #[.pointer a] 23) := by
  go_enter Try.func28, Try.ntmps28
  go_wp2
  go_ret
  exact ⟨rfl, rfl⟩
set_option maxRecDepth 100000 in
set_option maxHeartbeats 4000000 in
theorem blocks_tells (n Bp : Nat) (hn : 3 ≤ n) (S : Nat → Prop) (hb : Boxed w Bp 23 (.pointer (some ⟨p, 0, none⟩))) (h : WkW w p pa pm Sa AA D B L) (hnd : (L.map (·.h)).Nodup) :
    Tells Fence.wide n Try.prog 35 #[.pointer (some ⟨Bp, 0, none⟩)] encB (fun _ _ => True) (KT S KTyW) (fun ys => ys = bls AA L) (fun pre => pre <+: bls AA L) w := fun lp J Jx W hW hAJ hAJx hY h0 => by
  have h1 : 1 ≤ n := by omega
  obtain ⟨w0, hw0⟩ : ∃ w0, w0 = W.alloc (.cells #[.func (.yield lp) #[] #[]] 61) := ⟨_, rfl⟩
  have hb0 : Below W.heap.size W w0 := by rw [hw0]; exact (Below.refl _ _).alloc (Nat.le_refl _) _
  have hbw : Below w.heap.size w w0 := hW.trans (hb0.mono hW.size)
  have hh0 := h.no (Fr.of_below hbw)
  have d0 : w0.cell? ⟨Bp, 0, none⟩ = some (.pointer (some ⟨p, 0, none⟩)) := Boxed.cell ((hbw.block Bp hb.lt).trans hb)
  have d1 : w0.cell? ⟨p, 0, none⟩ = some (.pointer (some ⟨pa, 0, none⟩)) := hh0.c0
  obtain ⟨w1, hw1⟩ : ∃ w1, w1 = w0.alloc (.cells #[.pointer (some ⟨pa, 0, none⟩)] 62) := ⟨_, rfl⟩
  have hb1 : Below w0.heap.size w0 w1 := by rw [hw1]; exact (Below.refl _ _).alloc (Nat.le_refl _) _
  have hh1 := hh0.no (Fr.of_below hb1)
  have hbn : Boxed w1 w0.heap.size 62 (.pointer (some ⟨pa, 0, none⟩)) := by rw [hw1]; exact Boxed.new _ _ _
  have hst := arena_tells (n - 1) w0.heap.size pa Sa AA w1 hbn hh1.ar
  have hsz0 : w0.heap.size = W.heap.size + 1 := by rw [hw0]; simp
  have hy0 : w0.heap[W.heap.size]? = some (.cells #[.func (.yield lp) #[] #[]] 61 (0, 0)) := by rw [hw0]; exact heap_alloc_new _ _
  have hI0 : BlI lp W.heap.size B L J [] w1 := ⟨hAJ _ _ _ _ h0 (grown_of_below (hb0.trans (hb1.mono hb0.size))) (fun r e => by cases e), (hb1.block _ (by omega)).trans hy0, hh1.ob⟩
  have hz1 : w1.heap.size = W.heap.size + 2 := by rw [hw1]; simp; omega
  have hmem : ∀ x ∈ pairF 0 AA.L, ∃ b ∈ L, b.h = x.1 ∧ encE x.2 = .pointer (some ⟨B b.h, 0, none⟩) ∧ tgt L x.1 = b.t := fun x hx => by
    obtain ⟨b, hb, e1, e2⟩ := h.told hx
    refine ⟨b, hb, e1, by rw [e2]; rfl, ?_⟩
    unfold tgt
    rw [← e1, fb_mem hnd hb]
    rfl
  have HST := hid hst
  have HI0 := hid hI0
  have HY := hid hY
  have HAJ := hid hAJ
  have HAJX := hid hAJx
  have HW0 := hid hw0
  have HW1 := hid hw1
  have HZ1 := hid hz1
  have HZ0 := hid hsz0
  have HMEM := hid hmem
  clear hst hI0 hY hAJ hAJx hw0 hw1 hb0 hb1 hbn hy0 hbw hW hb hz1 hsz0 h0 hh0 hh1 h hnd hmem
  refine callsIn_of_wp_marks Try.func35 rfl trivial ?_ rfl
  simp only [Try.ntmps35, List.size_toArray, List.length_cons, List.length_nil, Nat.reduceAdd, Nat.reduceSub, Array.replicate_succ, Array.replicate_zero, List.push_toArray, List.append_toArray, List.nil_append, List.cons_append]
  gi_upto_region 1 with (fail)
  rw [← HW0.out]
  gi_wp2_with fail
  first
    | refine (callsIn_wide.2 (arenaAll_any _ _)).mono ?_
    | refine ⟨trivial, (callsIn_wide.2 (arenaAll_any _ _)).mono ?_⟩
    | refine ⟨trivial, (fun h => by cases h), (callsIn_wide.2 (arenaAll_any _ _)).mono ?_⟩
  rintro e w' ⟨rfl, hw'⟩
  obtain rfl : w' = w1 := hw'.trans HW1.out.symm
  clear hw'
  gi_wp2
  refine rangeFunc_x rfl h1 (gf := 40) (lb := #[.pointer (some ⟨w0.heap.size, 0, none⟩)]) rfl trivial (enters_of Try.func40 (by kernel_rfl) rfl)
    HST.out (fun _ _ _ h => h) (fun _ {A B C} h k => KCE.t h k) (fun _ W l o o' _ h2 h3 _ => KCE.b W l o o' h2 h3) (fun _ => rfl)
    (fun _ pre Wc => BlI lp W.heap.size B L J pre Wc) (fun c (pre : List (Int × Int)) Wc => c = .ret ∧ Jx (pre.map (pj L)) Wc)
    (fun _ pre X Y row h hg hr => ⟨HAJ.out _ _ _ _ h.j hg (fun r e => ⟨by have := (hr r e).1; have := HZ1.out; omega, (hr r e).2⟩), heap_kept h.y hg (not_cells h.y (fun r e => (hr r e).2)), fun b hb => heap_kept (h.c b hb) hg (not_cells (h.c b hb) (fun r e => (hr r e).2))⟩)
    (fun _ (pre : List (Int × Int)) X Y row ⟨hc, h⟩ hg hr => ⟨hc, HAJX.out _ X Y row h hg (fun r e => ⟨by have := (hr r e).1; have := HZ1.out; omega, (hr r e).2⟩)⟩)
    (fun _ _ _ _ => trivial) (fun _ _ => trivial) (fun _ W1 W2 hb _ hok => by
      have hbb := hb.trans (hok.mono hb.size)
      exact ⟨HAJ.out _ _ _ _ HI0.out.j (grown_of_below hbb) (fun r e => by cases e), (hbb.block _ (by have := HZ1.out; omega)).trans HI0.out.y, fun b hb => (hbb.block _ (Array.getElem?_eq_some_iff.1 (HI0.out.c b hb)).1).trans (HI0.out.c b hb)⟩)
    (fun _ pre x a' Wc => BlI lp W.heap.size B L J pre Wc ∧ a' = { tmps := #[.func (.yield lp) #[] #[], .pointer (some ⟨Bp, 0, none⟩), .pointer (some ⟨W.heap.size, 0, none⟩), .int .u64 x.1, encE x.2, .pointer (some ⟨p, 0, none⟩), .bool false, .pointer (some ⟨p, 0, none⟩), .pointer (some ⟨p, 0, none⟩), .pointer (some ⟨p, 0, none⟩), .pointer (some ⟨pa, 0, none⟩), .func (.func 40) #[] #[.pointer (some ⟨w0.heap.size, 0, none⟩)], .int .u64 x.1, encE x.2, undef, undef, undef, undef, undef, undef, undef, undef], defers := [] })
    (fun _ pre x a' _ X Y row hs hg hr => ⟨⟨HAJ.out _ _ _ _ hs.1.j hg (fun r e => ⟨by have := (hr r e).1; have := HZ1.out; omega, (hr r e).2⟩), heap_kept hs.1.y hg (not_cells hs.1.y (fun r e => (hr r e).2)), fun b hb => heap_kept (hs.1.c b hb) hg (not_cells (hs.1.c b hb) (fun r e => (hr r e).2))⟩, hs.2⟩)
    ?assign ?body ?done ?stop
  case assign =>
    rintro lo t pre x Wc K hci _ hK
    simp only [encPr]
    have HCI := hid hci
    have HKK := hid hK
    clear hci hK
    gi_wp2
    exact HKK.out _ _ (KeepsFrom.refl _ _) (fun _ _ h => h) ⟨HCI.out, rfl⟩
  case body =>
    rintro lo t pre x a' Wc hl ⟨r, hr⟩ hpx ⟨H, rfl⟩
    have hxm : x ∈ pairF 0 AA.L := (List.IsPrefix.subset hpx) (by simp)
    obtain ⟨b, hbm, hbh, hbe, hbt⟩ := HMEM.out x hxm
    have y0 : Wc.drew.cell? ⟨W.heap.size, 0, none⟩ = some (.func (.yield lp) #[] #[]) := by rw [World.cell?_drew, cell_of_row Wc W.heap.size 0 _ _ _ H.y]; rfl
    have y1 : Wc.drew.cell? ⟨B b.h, 0, none⟩ = some (.int .u64 b.t) := by rw [World.cell?_drew, cell_of_row Wc (B b.h) 0 _ _ _ (H.c b hbm)]; rfl
    rw [hbe]
    have hJd : J (pre.map (pj L)) Wc.drew := HAJ.out _ _ _ _ H.j (grown_of_below (Below.refl _ _).drew) (fun r e => by cases e)
    obtain ⟨fn, tmps, assign, body, hy, hRd⟩ := HY.out (pre.map (pj L)) (x.1, b.t) Wc.drew hJd trivial
    simp only [encB] at hy
    have HRD := hid (roundIn_wide2 (m := n - 1 - 1 - 1) hRd)
    have HYB := hid H.y
    have HCB := hid H.c
    have hmap : (pre ++ [x]).map (pj L) = (pre.map (pj L)) ++ [(x.1, b.t)] := by simp [pj, hbt]
    have HMAP := hid hmap
    clear H hl hr hpx hRd hmap hxm hbe hbh hbt hJd
    generalize B b.h = q at *
    generalize b.t = tt at *
    gi_wp2
    refine R.wp_region_mix [1, 0, 0, 0, 0, 1, 3, 0] (fun W' => W'.cell? ⟨W.heap.size, 0, none⟩ = some (.func (.yield lp) #[] #[]) ∧ W'.cell? ⟨q, 0, none⟩ = some (.int .u64 tt)) (by kernel_rfl) (by kernel_rfl) ⟨y0, y1⟩ ?_
    repeat (first
      | (refine' E.wpMix_value _ rfl rfl _ _; rotate_left; (solve | (intro W; go_simp) | (intro W; go_simp; with_reducible rfl)); simp only [Act.put, List.setIfInBounds_toArray, List.set_cons_zero, List.set_cons_succ])
      | (refine' E.wpMix_read _ rfl rfl _ _; rotate_left; (solve | (rintro W ⟨h1, h2⟩; go_simp) | (rintro W ⟨h1, h2⟩; go_simp; with_reducible rfl)); simp only [Act.put, List.setIfInBounds_toArray, List.set_cons_zero, List.set_cons_succ]))
    refine E.wpMix_round lp fn tmps assign body (by decide) rfl (by go_simp) ?_
    refine HRD.out.mono ?_
    rintro e W6 (⟨rfl, hJ6, hk6, hf6⟩ | ⟨rfl, hJx6, hf6⟩)
    · refine ⟨_, rfl, (fun h => by cases h), ?_⟩
      simp only [Act.put, List.setIfInBounds_toArray, List.set_cons_zero, List.set_cons_succ]
      have HJ6 := hid hJ6
      have HK6 := hid hk6
      have HF6 := hid hf6
      clear hJ6 hk6 hf6
      refine E.wpMix_value (.bool false) rfl rfl (by intro W; go_simp) ?_
      simp only [Act.put, List.setIfInBounds_toArray, List.set_cons_zero, List.set_cons_succ]
      refine E.wpMix_end ?_
      gi_wp2
      have hkf : KeepsFrom W.heap.size Wc W6 := ⟨HF6.out.size, HF6.out.same⟩
      refine ⟨kf_up hkf (by have := HZ1.out; omega), (fun k cs h => HK6.out k cs _ _ (.inr (.inl rfl)) h), ⟨?_, HK6.out _ _ _ _ (.inr (.inr (.inl rfl))) HYB.out, fun b hb => HK6.out _ _ _ _ (.inr (.inr (.inr rfl))) (HCB.out b hb)⟩⟩
      rw [HMAP.out]; exact HJ6.out
    · refine ⟨_, rfl, (fun h => by cases h), ?_⟩
      simp only [Act.put, List.setIfInBounds_toArray, List.set_cons_zero, List.set_cons_succ]
      have HJ6 := hid hJx6
      have HF6 := hid hf6
      clear hJx6 hf6
      refine E.wpMix_value (.bool true) rfl rfl (by intro W; go_simp) ?_
      simp only [Act.put, List.setIfInBounds_toArray, List.set_cons_zero, List.set_cons_succ]
      refine E.wpMix_end ?_
      gi_wp2
      have hkf : KeepsFrom W.heap.size Wc W6 := ⟨HF6.out.size, HF6.out.same⟩
      refine ⟨kf_up hkf (by have := HZ1.out; omega), rfl, ?_⟩
      rw [HMAP.out]; exact HJ6.out
  case done =>
    rintro D t Wc hD H hK
    have HH := hid H
    clear H
    gi_wp2
    refine ⟨by simp, .inl ⟨_, _, rfl, run_takeDeferred hK, ?_⟩⟩
    refine ⟨_, results_none rfl _ _ _, ⟨_, rfl⟩, .inl ⟨_, rfl, HAJ.out.putObj _ HH.out.j (by have := HZ1.out; omega) hK rfl⟩⟩
  case stop =>
    rintro D c pre Wc hD hp ⟨rfl, h2⟩ hK
    have HH := hid h2
    have HP := hid hp
    clear h2 hp
    gi_wp2
    refine ⟨by simp, .inl ⟨_, _, rfl, run_takeDeferred hK, ?_⟩⟩
    refine ⟨_, results_none rfl _ _ _, ⟨_, rfl⟩, .inr ⟨_, ?_, HAJX.out.putObj _ HH.out (by have := HZ1.out; omega) hK rfl⟩⟩
    exact HP.out.map _
end
end Go.Proofs.Ytmampaglemleoab

namespace Go.Proofs.Ytmampaglemleoab
open Go Go.ChangeShapes Go.WideShapes Go.ChangeAt Go.RowKit Go.Shelf
attribute [local go_sem] Oper.semAt_some

set_option maxRecDepth 100000 in
theorem infoUw : (Try.prog.info? 35).map (fun i => (i.zero, i.size, i.bytes)) = some (some (.int .u64 0), 1, 8) := by kernel_rfl
theorem seqB_not_nil (f : Nat) (fv : Array Value) (W : World) : (binOp .neq 80 (.func (.func f) #[] fv) .nilFunc).run Try.prog W = .ok (.bool true) W := by kernel_rfl
def fs (l : List (Int × Int)) : List Int := l.map (·.1)
def sn (l : List (Int × Int)) : List Int := l.map (·.2)
theorem fs_app (l : List (Int × Int)) (x : Int × Int) : (fs (l ++ [x])).map u64v = (fs l).map u64v ++ [.int .u64 x.1] := by simp [fs]
theorem sn_app (l : List (Int × Int)) (x : Int × Int) : (sn (l ++ [x])).map u64v = (sn l).map u64v ++ [.int .u64 x.2] := by simp [sn]
theorem fs_len (l : List (Int × Int)) : (fs l).length = l.length := by simp [fs]
theorem sn_len (l : List (Int × Int)) : (sn l).length = l.length := by simp [sn]
/-- Between two rounds: both rows in their boxes. -/
structure LW (w : World) (n0 : Nat) (m : Int) (pre : List (Int × Int)) (u v : Value) (W : World) : Prop where
  b0 : Boxed W w.heap.size 3 (.int .i64 m)
  b1 : Boxed W (w.heap.size + 1) 31 u
  b2 : Boxed W (w.heap.size + 2) 31 v
  r1 : W.ownsRow n0 35 1 u pre.length ((fs pre).map u64v)
  r2 : W.ownsRow n0 35 1 v pre.length ((sn pre).map u64v)
  ne : ∀ g, u.ownBlock = some g → v.ownBlock ≠ some g
  ml : (pre.length : Int) ≤ m
  below : Below w.heap.size w W
  sz : n0 ≤ W.heap.size
theorem LW.kept {w : World} {n0 : Nat} {m : Int} {pre : List (Int × Int)} {u v : Value} {W W' : World} {row : Option Nat} (h : LW w n0 m pre u v W) (hg : W.grownBy W' row) (hr : ∀ r, row = some r → w.heap.size ≤ r ∧ ∃ o : Obj, W.heap[r]? = some o ∧ o.isCells = false) : LW w n0 m pre u v W' :=
  have hr' := fun r e => (hr r e).2
  ⟨h.b0.kept hg (not_cells h.b0 hr'), h.b1.kept hg (not_cells h.b1 hr'), h.b2.kept hg (not_cells h.b2 hr'), owns_not_cells h.r1 hg hr', owns_not_cells h.r2 hg hr', h.ne, h.ml, h.below.grown hg h.below.size (fun k e => (hr k e).1), Nat.le_trans h.sz hg.size⟩
def LWs (w : World) (n0 : Nat) (m : Int) (pre : List (Int × Int)) (W : World) : Prop := ∃ u v, LW w n0 m pre u v W
theorem LWs.ownFrom (w : World) (n0 : Nat) (m : Int) (B : Nat) (hB : w.heap.size ≤ B) : OwnFrom B (LWs w n0 m) := fun _ _ _ _ ⟨u, v, h⟩ hg hr =>
  ⟨u, v, h.kept hg (fun r e => ⟨Nat.le_trans hB (hr r e).1, (hr r e).2⟩)⟩
def LWx (w : World) (n0 : Nat) (m : Int) (c : Code) (ps : List (Int × Int)) (W : World) : Prop := c = .exit 0 ∧ ∃ pre x, ps = pre ++ [x] ∧ (pre.length : Int) = m ∧ LWs w n0 m pre W
theorem LWx.ownFrom (w : World) (n0 : Nat) (m : Int) (B : Nat) (hB : w.heap.size ≤ B) (c : Code) : OwnFrom B (LWx w n0 m c) := fun _ W W' row ⟨hc, pre, x, h1, h2, h3⟩ hg hr =>
  ⟨hc, pre, x, h1, h2, LWs.ownFrom w n0 m B hB pre W W' row h3 hg hr⟩
def ToldP (w : World) (l : List (Int × Int)) (m : Nat) (e : Ending) (w' : World) : Prop :=
  Below w.heap.size w w' ∧ ∃ v1 v2, e = .returned (.tuple #[v1, v2]) ∧ Told TU u64v w' v1 ((fs l).take m) ∧ Told TU u64v w' v2 ((sn l).take m)
/-- An iterator that tells l. -/
def BlkT (w : World) (a : Option Addr) (l : List (Int × Int)) : Prop := ∀ w1 Bp, Below w.heap.size w w1 → w.heap.size ≤ Bp → Boxed w1 Bp 23 (.pointer a) →
  ∀ n, 3 ≤ n → Tells Fence.wide n Try.prog 35 #[.pointer (some ⟨Bp, 0, none⟩)] encB (fun _ _ => True) (KT (fun k => k < w.heap.size) KTyW) (fun ys => ys = l) (fun pre => pre <+: l) w1
set_option maxRecDepth 100000 in
set_option maxHeartbeats 4000000 in
theorem told_in (n : Nat) (hn : 4 ≤ n) (w : World) (a : Option Addr) (l : List (Int × Int)) (m : Nat) (hT : BlkT w a l) (hm : m ≤ 100000) :
    CallsIn Fence.wide n Try.prog 13 #[.pointer a, .int .i64 m] w (ToldP w l m) := by
  have h1 : 1 ≤ n := by omega
  obtain ⟨i0, hi, hz0, hz1, hz2⟩ := info_parts infoUw
  obtain ⟨mi, hmi⟩ : ∃ mi : Int, mi = (m : Int) := ⟨_, rfl⟩
  rw [← hmi]
  have hmi2 : 0 ≤ mi ∧ mi ≤ 100000 := by omega
  obtain ⟨w1, hw1⟩ : ∃ w1, w1 = ((w.alloc (.cells #[.int .i64 mi] 3)).alloc (.cells #[.slice none 0 0] 31)).alloc (.cells #[.slice none 0 0] 31) := ⟨_, rfl⟩
  have hb1 : Below w.heap.size w w1 := by rw [hw1]; exact (((Below.refl _ _).alloc (Nat.le_refl _) _).alloc (by simp) _).alloc (by simp; omega) _
  have hsz1 : w1.heap.size = w.heap.size + 3 := by rw [hw1]; simp
  have b0 := ((Boxed.new w 3 (.int .i64 mi)).alloc (.cells #[.slice none 0 0] 31)).alloc (.cells #[.slice none 0 0] 31)
  have b1 := (Boxed.new (w.alloc (.cells #[.int .i64 mi] 3)) 31 (.slice none 0 0)).alloc (.cells #[.slice none 0 0] 31)
  have b2 := Boxed.new ((w.alloc (.cells #[.int .i64 mi] 3)).alloc (.cells #[.slice none 0 0] 31)) 31 (.slice none 0 0)
  simp only [World.size_alloc] at b1 b2
  rw [← hw1] at b0 b1 b2
  have HM := hid hmi
  clear hmi hm
  have HC := hid (Blocks_any w1 a)
  have HT := hid hT
  have HB0 := hid b0
  have HB1 := hid b1
  have HB2 := hid b2
  have HBW := hid hb1
  have HW1 := hid hw1
  have HZ1 := hid hsz1
  clear hT b0 b1 b2 hb1 hw1 hsz1
  refine callsIn_of_wp_marks Try.func13 rfl trivial ?_ rfl
  simp only [Try.ntmps13, List.size_toArray, List.length_cons, List.length_nil, Nat.reduceAdd, Nat.reduceSub, Array.replicate_succ, Array.replicate_zero, List.push_toArray, List.append_toArray, List.nil_append, List.cons_append]
  have hq := seqB_not_nil
  gi_wp2
  rw [← HW1.out]
  first
    | refine ⟨trivial, (fun h => by cases h), (callsIn_wide.2 HC.out).mono ?_⟩
    | refine ⟨trivial, (callsIn_wide.2 HC.out).mono ?_⟩
    | refine (callsIn_wide.2 HC.out).mono ?_
  rintro e w2 ⟨rfl, hw2⟩
  have hb2 : Below w1.heap.size w1 w2 := by rw [hw2]; exact (Below.refl _ _).alloc (Nat.le_refl _) _
  have hbw := HBW.out.trans (hb2.mono HBW.out.size)
  have hsz2 : w2.heap.size = w.heap.size + 4 := by rw [hw2]; simp [HZ1.out]
  have hsz : w.heap.size + 3 ≤ w2.heap.size := by omega
  have hbx : Boxed w2 w1.heap.size 23 (.pointer a) := by rw [hw2]; exact Boxed.new _ _ _
  have hst := HT.out w2 w1.heap.size hbw (by have := HZ1.out; omega) hbx (n - 1) (by omega)
  have hb1s : Boxed w2 (w.heap.size + 1) 31 (.slice none 0 0) := (hb2.block _ HB1.out.lt).trans HB1.out
  have hb2s : Boxed w2 (w.heap.size + 1 + 1) 31 (.slice none 0 0) := (hb2.block _ HB2.out.lt).trans HB2.out
  have hLW : LW w w2.heap.size mi [] (.slice none 0 0) (.slice none 0 0) w2 := ⟨(hb2.block _ HB0.out.lt).trans HB0.out, hb1s, hb2s, World.ownsRow_nil _ _ _ _, World.ownsRow_nil _ _ _ _, (fun g h => by cases h), by simpa using hmi2.1, hbw, Nat.le_refl _⟩
  have HST := hid hst
  have HLW := hid hLW
  have HZ := hid hsz
  clear hst hLW hbw hb1s hb2s hb2 hbx HC HW1 HB0 HB1 HB2 hsz hsz2 hw2 HT
  gi_wp2
  clear hq
  refine rangeFunc_mem rfl h1 (gf := 35) (lb := #[.pointer (some ⟨w1.heap.size, 0, none⟩)]) rfl trivial (enters_of Try.func35 (by kernel_rfl) rfl)
    HST.out (fun h k => h.t k) (fun W l o o' _ h2 h3 _ => KT.b _ _ W l o o' h2 h3) (fun _ => rfl)
    (LWs w w2.heap.size mi) (LWx w w2.heap.size mi) (LWs.ownFrom w w2.heap.size mi _ (by have := HZ.out; omega)) (LWx.ownFrom w w2.heap.size mi _ (by have := HZ.out; omega)) ⟨_, _, HLW.out⟩
    (fun pre x a' W => LWs w w2.heap.size mi pre W ∧ a' = { tmps := #[.pointer a, .int .i64 mi, undef, .pointer (some ⟨w.heap.size, 0, none⟩), .slice none 0 0, .slice none 0 0, .pointer (some ⟨w.heap.size + 1, 0, none⟩), .pointer (some ⟨w.heap.size + 2, 0, none⟩), .func (.func 35) #[] #[.pointer (some ⟨w1.heap.size, 0, none⟩)], .int .u64 x.1, .int .u64 x.2, .pointer a, .func (.func 35) #[] #[.pointer (some ⟨w1.heap.size, 0, none⟩)], .func (.func 35) #[] #[.pointer (some ⟨w1.heap.size, 0, none⟩)], .bool true, .func (.func 35) #[] #[.pointer (some ⟨w1.heap.size, 0, none⟩)], .int .u64 x.1, .int .u64 x.2, undef, undef, undef, undef, undef, undef, undef, undef, undef, undef, undef, undef, undef, undef], defers := [] })
    (fun pre x a' _ X Y row hs hg hr => ⟨LWs.ownFrom w w2.heap.size mi _ (by have := HZ.out; omega) pre X Y row hs.1 hg hr, hs.2⟩) ?assign ?body ?done ?stop
  case assign =>
    rintro lp pre x W K hI _ hK
    have HK := hid hK
    have HII := hid hI
    clear hK hI
    simp only [encB]
    gi_wp2
    exact HK.out _ _ (KeepsFrom.refl _ _) (KT.refl _ _ _) ⟨HII.out, rfl⟩
  case body =>
    rintro lp pre x a' W hl ⟨r, hr⟩ ⟨⟨u, v, H⟩, rfl⟩
    have HH := hid H
    have e0 := H.b0.cell
    have e1 := H.b1.cell
    have f1 := H.b1.frozen
    have hml := H.ml
    obtain ⟨la, lk, rfl⟩ := own_form H.r1
    obtain ⟨ua, uk, rfl⟩ := own_form H.r2
    obtain ⟨x1, x2⟩ := x
    simp only
    clear H hl hr
    by_cases hfull : (pre.length : Int) = mi
    · have hge : decide (mi ≤ (pre.length : Int)) = true := by simp; omega
      have HF := hid hfull
      clear hfull
      gi_wp2
      exact ⟨KeepsFrom.refl _ _, rfl, pre, _, rfl, HF.out, _, _, HH.out⟩
    · have hge : decide (mi ≤ (pre.length : Int)) = false := by simp; omega
      have hlt : (pre.length : Int) < mi := by omega
      clear hfull
      have H := HH.out
      have hsz := H.sz
      have hzz := HZ.out
      gi_upto_region 9 with (first
        | (gi_at_builtin; refine wpListIn_append_at _ rfl _ _ 31 rfl w2.heap.size 35 i0 (.int .u64 0) 1 8 Try.underlying31 hi hz0 hz1 hz2 rfl (by decide) _ _ _ rfl (H.r1.alloc _) ⟨W.heap.size, 0, none⟩ 1 1 [.int .u64 x1] rfl rfl (cell_one_new _ _ _) (by simp [Value.oneCell']) (by simp only [maxLen]; omega) (by omega) (by simp; omega) ?_; intro v' w3 hown' hgrow hat; obtain ⟨g', cap', rfl⟩ := ownsRow_succ hown'; obtain ⟨p1, p2, p3, p4, p5, p6, p7⟩ := box_push H.b1 (by decide) H.r1 hown' hgrow; obtain ⟨o2, on⟩ := other_row H.b1 (by decide) hgrow hat H.r2 H.ne; have hc1 := p1.cell; have hf1 := p1.frozen))
      have hkt := box_pushT H.b1 (T := KTyW) (by unfold KTyW; decide) (by unfold KTyW; decide) H.r1 hgrow (p5 (fun k => k < w.heap.size) (fun h => by omega) (fun k h1 h2 => by omega))
      have b0' := p7 _ _ _ H.b0 (by omega) (by omega)
      have b2' := p7 _ _ _ H.b2 (by omega) (by omega)
      have hb1 := p6 w.heap.size (by omega) (by omega) H.below.size
      obtain ⟨w4, hw4⟩ : ∃ w4, w4 = w3.setCell ⟨w.heap.size + 1, 0, none⟩ (.slice (some ⟨g', 0, none⟩) (pre.length + 1) cap') := ⟨_, rfl⟩
      rw [← hw4] at p2 p3 p4 o2 b0' b2' hkt hb1 ⊢
      have P2 := hid p2
      have P3 := hid p3
      have P4 := hid p4
      have O2 := hid o2
      have B0 := hid b0'
      have B2 := hid b2'
      have HKT := hid hkt
      have HBL := hid (H.below.trans hb1)
      have ON := hid (show ∀ g, (Value.slice ua pre.length uk).ownBlock = some g → (Value.slice (some ⟨g', 0, none⟩) (pre.length + 1) cap').ownBlock ≠ some g from fun g h1 h2 => on g h2 h1)
      have hsz4 : w2.heap.size ≤ w4.heap.size := Nat.le_trans hsz p4.size
      have e2 := b2'.cell
      have f2 := b2'.frozen
      clear p1 p2 p3 p4 p5 p6 p7 o2 on hc1 hf1 b0' b2' hkt hb1 hw4 hgrow hat hown' e0 e1 f1
      gi_wp2_with (first
        | (gi_at_builtin; refine wpListIn_append_at _ rfl _ _ 31 rfl w2.heap.size 35 i0 (.int .u64 0) 1 8 Try.underlying31 hi hz0 hz1 hz2 rfl (by decide) _ _ _ rfl (O2.out.alloc _) ⟨w4.heap.size, 0, none⟩ 1 1 [.int .u64 x2] rfl rfl (cell_one_new _ _ _) (by simp [Value.oneCell']) (by simp only [maxLen]; omega) (by omega) (by simp; omega) ?_; intro v' w5 hown' hgrow hat; obtain ⟨g2, cap2, rfl⟩ := ownsRow_succ hown'; obtain ⟨p1, p2, p3, p4, p5, p6, p7⟩ := box_push B2.out (by decide) O2.out hown' hgrow; obtain ⟨o2, on⟩ := other_row B2.out (by decide) hgrow hat P3.out ON.out; have hc1 := p1.cell; have hf1 := p1.frozen))
      have hkt2 := box_pushT B2.out (T := KTyW) (by unfold KTyW; decide) (by unfold KTyW; decide) O2.out hgrow (p5 (fun k => k < w.heap.size) (fun h => by omega) (fun k h1 h2 => by omega))
      refine ⟨(P4.out.trans p4).from _, HKT.out.t hkt2, _, _, p7 _ _ _ B0.out (by omega) (by omega), p7 _ _ _ P2.out (by omega) (by omega), p2, ?_, ?_, fun g h1 h2 => on g h2 h1, ?_, HBL.out.trans (p6 _ (by omega) (by omega) HBL.out.size), Nat.le_trans hsz4 p4.size⟩
      · rw [List.length_append, fs_app]; exact o2
      · rw [List.length_append, sn_app]; exact p3
      · simp; omega
  case done =>
    rintro D ys W hD hyL ⟨u, v, H⟩ hK
    subst hyL
    have hml := H.ml
    have e1 := H.b1.cell
    have e2 := H.b2.cell
    have HH := hid H
    have HK := hid hK
    have HD := hid hD
    obtain ⟨a1, c1, rfl⟩ := own_form H.r1
    obtain ⟨a2, c2, rfl⟩ := own_form H.r2
    have R1 := hid H.r1
    have R2 := hid H.r2
    clear H hK hD
    gi_upto_region 10 with (fail)
    refine G.wp_region_mix [1, 1, 0, 0] (fun W' => W'.cell? ⟨w.heap.size + 1, 0, none⟩ = some (.slice a1 ys.length c1) ∧ W'.cell? ⟨w.heap.size + 2, 0, none⟩ = some (.slice a2 ys.length c2)) (by kernel_rfl) (by kernel_rfl) ⟨e1, e2⟩ ?_
    repeat (first
      | (refine' E.wpMix_value _ rfl rfl _ _; rotate_left; (solve | (intro W; go_simp) | (intro W; go_simp; with_reducible rfl)); simp only [Act.put, List.setIfInBounds_toArray, List.set_cons_zero, List.set_cons_succ])
      | (refine' E.wpMix_read _ rfl rfl _ _; rotate_left; (solve | (rintro W ⟨h1, h2⟩; go_simp) | (rintro W ⟨h1, h2⟩; go_simp; with_reducible rfl)); simp only [Act.put, List.setIfInBounds_toArray, List.set_cons_zero, List.set_cons_succ]))
    refine E.wpMix_end ?_
    gi_wp2
    have hK' : W.drew.heap[D]? = some (.deferred (some [])) := HK.out
    refine ⟨by simp, .inl ⟨_, _, rfl, run_takeDeferred hK', ?_⟩⟩
    have hd := (Below.refl W.heap.size W).drew
    have q1 := ownsRow_putObj ((Fr.of_below (fp := fun _ => False) hd).owns R1.out (fun _ _ h => h)) (.deferred none) hK' rfl
    have q2 := ownsRow_putObj ((Fr.of_below (fp := fun _ => False) hd).owns R2.out (fun _ _ h => h)) (.deferred none) hK' rfl
    have t1 := (⟨by rw [fs_len]; exact q1, fun _ _ h => h⟩ : RowS TU u64v (fun _ => False) w2.heap.size _ _ (fs ys)).told
    have t2 := (⟨by rw [sn_len]; exact q2, fun _ _ h => h⟩ : RowS TU u64v (fun _ => False) w2.heap.size _ _ (sn ys)).told
    refine ⟨.tuple #[.slice a1 ys.length c1, .slice a2 ys.length c2], ?_, ?_, _, _, rfl, ?_, ?_⟩
    · simp [results, Try.f13, go_sem]
    · exact (HH.out.below.trans (hd.mono HH.out.below.size)).trans (belowK_b (w := w) (Nat.le_refl _) _ D _ _ (by have := HD.out; have := HZ.out; omega) hK' rfl rfl)
    · rw [List.take_of_length_le (by rw [fs_len]; have := HM.out; omega)]; exact t1
    · rw [List.take_of_length_le (by rw [sn_len]; have := HM.out; omega)]; exact t2
  case stop =>
    rintro D c pre0 W hD hp ⟨rfl, pre, x, rfl, hl, u, v, H⟩ hK
    have hpr := List.prefix_iff_eq_take.1 ((List.prefix_append pre [x]).trans hp)
    have HP := hid hpr
    clear hp hpr
    have e1 := H.b1.cell
    have e2 := H.b2.cell
    have HH := hid H
    have HK := hid hK
    have HD := hid hD
    obtain ⟨a1, c1, rfl⟩ := own_form H.r1
    obtain ⟨a2, c2, rfl⟩ := own_form H.r2
    have R1 := hid H.r1
    have R2 := hid H.r2
    clear H hK hD
    gi_upto_region 10 with (fail)
    refine G.wp_region_mix [1, 1, 0, 0] (fun W' => W'.cell? ⟨w.heap.size + 1, 0, none⟩ = some (.slice a1 pre.length c1) ∧ W'.cell? ⟨w.heap.size + 2, 0, none⟩ = some (.slice a2 pre.length c2)) (by kernel_rfl) (by kernel_rfl) ⟨e1, e2⟩ ?_
    repeat (first
      | (refine' E.wpMix_value _ rfl rfl _ _; rotate_left; (solve | (intro W; go_simp) | (intro W; go_simp; with_reducible rfl)); simp only [Act.put, List.setIfInBounds_toArray, List.set_cons_zero, List.set_cons_succ])
      | (refine' E.wpMix_read _ rfl rfl _ _; rotate_left; (solve | (rintro W ⟨h1, h2⟩; go_simp) | (rintro W ⟨h1, h2⟩; go_simp; with_reducible rfl)); simp only [Act.put, List.setIfInBounds_toArray, List.set_cons_zero, List.set_cons_succ]))
    refine E.wpMix_end ?_
    gi_wp2
    have hK' : W.drew.heap[D]? = some (.deferred (some [])) := HK.out
    refine ⟨by simp, .inl ⟨_, _, rfl, run_takeDeferred hK', ?_⟩⟩
    have hd := (Below.refl W.heap.size W).drew
    have q1 := ownsRow_putObj ((Fr.of_below (fp := fun _ => False) hd).owns R1.out (fun _ _ h => h)) (.deferred none) hK' rfl
    have q2 := ownsRow_putObj ((Fr.of_below (fp := fun _ => False) hd).owns R2.out (fun _ _ h => h)) (.deferred none) hK' rfl
    have t1 := (⟨by rw [fs_len]; exact q1, fun _ _ h => h⟩ : RowS TU u64v (fun _ => False) w2.heap.size _ _ (fs pre)).told
    have t2 := (⟨by rw [sn_len]; exact q2, fun _ _ h => h⟩ : RowS TU u64v (fun _ => False) w2.heap.size _ _ (sn pre)).told
    have hmm : m = pre.length := by have := HM.out; omega
    have e3 : (fs l).take m = fs pre := by rw [hmm]; conv => rhs; rw [HP.out]
                                           simp [fs, List.map_take]
    have e4 : (sn l).take m = sn pre := by rw [hmm]; conv => rhs; rw [HP.out]
                                           simp [sn, List.map_take]
    refine ⟨.tuple #[.slice a1 pre.length c1, .slice a2 pre.length c2], ?_, ?_, _, _, rfl, ?_, ?_⟩
    · simp [results, Try.f13, go_sem]
    · exact (HH.out.below.trans (hd.mono HH.out.below.size)).trans (belowK_b (w := w) (Nat.le_refl _) _ D _ _ (by have := HD.out; have := HZ.out; omega) hK' rfl rfl)
    · rw [e3]; exact t1
    · rw [e4]; exact t2
theorem told_any (w : World) (a : Option Addr) (l : List (Int × Int)) (m : Nat) (hT : BlkT w a l) (hm : m ≤ 100000) : Calls Try.prog 13 #[.pointer a, .int .i64 m] w (ToldP w l m) :=
  (callsIn_wide (n := 4)).1 (told_in 4 (by omega) w a l m hT hm)
end Go.Proofs.Ytmampaglemleoab
