/-
  A table of weak blocks: Blocks: what it tells.
-/
import Derived.Test.YtmampaglemleoabWkF
import Derived.Test.YtmampaglemleoabAeL
import Derived.Test.YtmampaglemleoabMixR
import Derived.Sort.CutIn
namespace Go.Proofs.Ytmampaglemleoab
open Go Go.ChangeShapes Go.WideShapes Go.ChangeAt Go.RowKit Go.Maps Go.Shelf
attribute [local go_sem] Oper.semAt_some

/-- A block's target. -/
def tgt (L : WL) (h : Int) : Int := ((fb L h).map (·.t)).getD 0
def pj (L : WL) (y : Int × Int) : Int × Int := (y.1, tgt L y.1)
def encB (x : Int × Int) : Array Value := #[.int .u64 x.1, .int .u64 x.2]
/-- What a table tells. -/
def bls (A : Ar) (L : WL) : List (Int × Int) := (pairF 0 A.L).map (pj L)
theorem pairF_mem : ∀ (L : List Spot) (k : Nat) (x : Int × Int), x ∈ pairF k L → ∃ (i : Nat) (s : Spot), L[i]? = some s ∧ s.t = true ∧ x = (hand (k + i) s.g, s.x)
  | [], _, _, h => by cases h
  | a :: L, k, x, h => by
    unfold pairF at h
    have hrec : x ∈ pairF (k + 1) L → ∃ (i : Nat) (s : Spot), (a :: L)[i]? = some s ∧ s.t = true ∧ x = (hand (k + i) s.g, s.x) := fun h => by
      obtain ⟨i, s, h1, h2, h3⟩ := pairF_mem L (k + 1) x h
      exact ⟨i + 1, s, by simpa using h1, h2, by rw [h3]; congr 2; omega⟩
    split at h
    · rename_i ht
      rcases List.mem_cons.1 h with rfl | h
      · exact ⟨0, a, rfl, ht, by simp⟩
      · exact hrec h
    · exact hrec h
theorem pairF_er : ∀ (L : List Spot) (k : Nat), (pairF k (L.map e0)).map (·.1) = (pairF k L).map (·.1)
  | [], _ => rfl
  | a :: L, k => by
    have ih := pairF_er L (k + 1)
    rw [List.map_cons]
    unfold pairF
    have e1 : (e0 a).t = a.t := rfl
    have e2 : (e0 a).g = a.g := rfl
    rw [e1, e2]
    cases a.t with
    | true => simp only [if_true, List.map_cons]; rw [ih]
    | false => simp only [Bool.false_eq_true, if_false]; exact ih
theorem bls_er (A : Ar) (L : WL) : bls (er A) L = bls A L := by
  have h : ∀ l : List (Int × Int), l.map (pj L) = (l.map (·.1)).map fun h => (h, tgt L h) := fun l => by simp [pj]
  unfold bls
  rw [h, h]
  show ((pairF 0 (A.L.map e0)).map (·.1)).map _ = _
  rw [pairF_er]
section
variable {w w' : World} {p pa pm : Nat} {Sa : Nat → Prop} {AA : Ar} {D : DataW Unit} {B : Int → Nat} {L : WL} {fp : Nat → Prop}
theorem WkW.told (h : WkW w p pa pm Sa AA D B L) {x : Int × Int} (hx : x ∈ pairF 0 AA.L) : ∃ b ∈ L, b.h = x.1 ∧ x.2 = ((B b.h + 1 : Nat) : Int) := by
  obtain ⟨i, s, h1, h2, rfl⟩ := pairF_mem _ _ _ hx
  rw [Nat.zero_add]
  obtain ⟨b, hb, e⟩ := h.co i s h1 h2
  obtain ⟨j, r, g1, g2, g3, g4⟩ := h.pl b hb
  obtain ⟨_, e2⟩ := Found.same h.ar.ok (h := b.h) ⟨h1, h2, e⟩ ⟨g1, g2, g3⟩
  exact ⟨b, hb, e, by rw [← g4, e2]⟩
/-- The types of what the iterator keeps: the places' copy, what it calls, the blocks. -/
def KTyW (t : TypeId) : Prop := t = 101 ∨ t = 61 ∨ t = 85
/-- Between two rounds. -/
structure BlI (lp Y : Nat) (B : Int → Nat) (L : WL) (J : List (Int × Int) → World → Prop) (pre : List (Int × Int)) (W : World) : Prop where
  j : J (pre.map (pj L)) W
  y : W.heap[Y]? = some (.cells #[.func (.yield lp) #[] #[]] 61 (0, 0))
  c : ∀ b ∈ L, W.heap[B b.h]? = some (.cells #[.int .u64 b.t, .int .u32 b.n] 85 (0, 0))
theorem Blocks_any (w : World) (a : Option Addr) : Calls Try.prog 28 #[.pointer a] w fun e w' => e = .returned (.func (.func 35) #[] #[.pointer (some ⟨w.heap.size, 0, none⟩)]) ∧ w' = w.alloc (.cells #[.pointer a] 23) := by
  go_enter Try.func28, Try.ntmps28
  go_wp2
  go_ret
  exact ⟨rfl, rfl⟩
set_option maxRecDepth 100000 in
set_option maxHeartbeats 4000000 in
theorem blocks_tells (n Bp : Nat) (hn : 3 ≤ n) (S : Nat → Prop) (hb : Boxed w Bp 23 (.pointer (some ⟨p, 0, none⟩))) (h : WkW w p pa pm Sa AA D B L) (hnd : (L.map (·.h)).Nodup) :
    Tells Fence.wide n Try.prog 35 #[.pointer (some ⟨Bp, 0, none⟩)] encB (fun _ _ => True) (KT S KTyW) (fun ys => ys = bls AA L) (fun pre => pre <+: bls AA L) w := fun lp J Jx W hW hAJ hAJx hY h0 => by
  have h1 : 1 ≤ n := by omega
  obtain ⟨w0, hw0⟩ : ∃ w0, w0 = W.alloc (.cells #[.func (.yield lp) #[] #[]] 61) := ⟨_, rfl⟩
  have hb0 : Below W.heap.size W w0 := by rw [hw0]; exact (Below.refl _ _).alloc (Nat.le_refl _) _
  have hbw : Below w.heap.size w w0 := hW.trans (hb0.mono hW.size)
  have hh0 := h.no (Fr.of_below hbw)
  have d0 : w0.cell? ⟨Bp, 0, none⟩ = some (.pointer (some ⟨p, 0, none⟩)) := Boxed.cell ((hbw.block Bp hb.lt).trans hb)
  have d1 : w0.cell? ⟨p, 0, none⟩ = some (.pointer (some ⟨pa, 0, none⟩)) := hh0.c0
  obtain ⟨w1, hw1⟩ : ∃ w1, w1 = w0.alloc (.cells #[.pointer (some ⟨pa, 0, none⟩)] 62) := ⟨_, rfl⟩
  have hb1 : Below w0.heap.size w0 w1 := by rw [hw1]; exact (Below.refl _ _).alloc (Nat.le_refl _) _
  have hh1 := hh0.no (Fr.of_below hb1)
  have hbn : Boxed w1 w0.heap.size 62 (.pointer (some ⟨pa, 0, none⟩)) := by rw [hw1]; exact Boxed.new _ _ _
  have hst := arena_tells (n - 1) w0.heap.size pa Sa AA w1 hbn hh1.ar
  have hsz0 : w0.heap.size = W.heap.size + 1 := by rw [hw0]; simp
  have hy0 : w0.heap[W.heap.size]? = some (.cells #[.func (.yield lp) #[] #[]] 61 (0, 0)) := by rw [hw0]; exact heap_alloc_new _ _
  have hI0 : BlI lp W.heap.size B L J [] w1 := ⟨hAJ _ _ _ _ h0 (grown_of_below (hb0.trans (hb1.mono hb0.size))) (fun r e => by cases e), (hb1.block _ (by omega)).trans hy0, hh1.ob⟩
  have hz1 : w1.heap.size = W.heap.size + 2 := by rw [hw1]; simp; omega
  have hmem : ∀ x ∈ pairF 0 AA.L, ∃ b ∈ L, b.h = x.1 ∧ encE x.2 = .pointer (some ⟨B b.h, 0, none⟩) ∧ tgt L x.1 = b.t := fun x hx => by
    obtain ⟨b, hb, e1, e2⟩ := h.told hx
    refine ⟨b, hb, e1, by rw [e2]; rfl, ?_⟩
    unfold tgt
    rw [← e1, fb_mem hnd hb]
    rfl
  have HST := hid hst
  have HI0 := hid hI0
  have HY := hid hY
  have HAJ := hid hAJ
  have HAJX := hid hAJx
  have HW0 := hid hw0
  have HW1 := hid hw1
  have HZ1 := hid hz1
  have HZ0 := hid hsz0
  have HMEM := hid hmem
  clear hst hI0 hY hAJ hAJx hw0 hw1 hb0 hb1 hbn hy0 hbw hW hb hz1 hsz0 h0 hh0 hh1 h hnd hmem
  refine callsIn_of_wp_marks Try.func35 rfl trivial ?_ rfl
  simp only [Try.ntmps35, List.size_toArray, List.length_cons, List.length_nil, Nat.reduceAdd, Nat.reduceSub, Array.replicate_succ, Array.replicate_zero, List.push_toArray, List.append_toArray, List.nil_append, List.cons_append]
  gi_upto_region 1 with (fail)
  rw [← HW0.out]
  gi_wp2_with fail
  first
    | refine (callsIn_wide.2 (arenaAll_any _ _)).mono ?_
    | refine ⟨trivial, (callsIn_wide.2 (arenaAll_any _ _)).mono ?_⟩
    | refine ⟨trivial, (fun h => by cases h), (callsIn_wide.2 (arenaAll_any _ _)).mono ?_⟩
  rintro e w' ⟨rfl, hw'⟩
  obtain rfl : w' = w1 := hw'.trans HW1.out.symm
  clear hw'
  gi_wp2
  refine rangeFunc_x rfl h1 (gf := 40) (lb := #[.pointer (some ⟨w0.heap.size, 0, none⟩)]) rfl trivial (enters_of Try.func40 (by kernel_rfl) rfl)
    HST.out (fun _ _ _ h => h) (fun _ {A B C} h k => KCE.t h k) (fun _ W l o o' _ h2 h3 _ => KCE.b W l o o' h2 h3) (fun _ => rfl)
    (fun _ pre Wc => BlI lp W.heap.size B L J pre Wc) (fun c (pre : List (Int × Int)) Wc => c = .ret ∧ Jx (pre.map (pj L)) Wc)
    (fun _ pre X Y row h hg hr => ⟨HAJ.out _ _ _ _ h.j hg (fun r e => ⟨by have := (hr r e).1; have := HZ1.out; omega, (hr r e).2⟩), heap_kept h.y hg (not_cells h.y (fun r e => (hr r e).2)), fun b hb => heap_kept (h.c b hb) hg (not_cells (h.c b hb) (fun r e => (hr r e).2))⟩)
    (fun _ (pre : List (Int × Int)) X Y row ⟨hc, h⟩ hg hr => ⟨hc, HAJX.out _ X Y row h hg (fun r e => ⟨by have := (hr r e).1; have := HZ1.out; omega, (hr r e).2⟩)⟩)
    (fun _ _ _ _ => trivial) (fun _ _ => trivial) (fun _ W1 W2 hb _ hok => by
      have hbb := hb.trans (hok.mono hb.size)
      exact ⟨HAJ.out _ _ _ _ HI0.out.j (grown_of_below hbb) (fun r e => by cases e), (hbb.block _ (by have := HZ1.out; omega)).trans HI0.out.y, fun b hb => (hbb.block _ (Array.getElem?_eq_some_iff.1 (HI0.out.c b hb)).1).trans (HI0.out.c b hb)⟩)
    (fun _ pre x a' Wc => BlI lp W.heap.size B L J pre Wc ∧ a' = { tmps := #[.func (.yield lp) #[] #[], .pointer (some ⟨Bp, 0, none⟩), .pointer (some ⟨W.heap.size, 0, none⟩), .int .u64 x.1, encE x.2, .pointer (some ⟨p, 0, none⟩), .bool false, .pointer (some ⟨p, 0, none⟩), .pointer (some ⟨p, 0, none⟩), .pointer (some ⟨p, 0, none⟩), .pointer (some ⟨pa, 0, none⟩), .func (.func 40) #[] #[.pointer (some ⟨w0.heap.size, 0, none⟩)], .int .u64 x.1, encE x.2, undef, undef, undef, undef, undef, undef, undef, undef], defers := [] })
    (fun _ pre x a' _ X Y row hs hg hr => ⟨⟨HAJ.out _ _ _ _ hs.1.j hg (fun r e => ⟨by have := (hr r e).1; have := HZ1.out; omega, (hr r e).2⟩), heap_kept hs.1.y hg (not_cells hs.1.y (fun r e => (hr r e).2)), fun b hb => heap_kept (hs.1.c b hb) hg (not_cells (hs.1.c b hb) (fun r e => (hr r e).2))⟩, hs.2⟩)
    ?assign ?body ?done ?stop
  case assign =>
    rintro lo t pre x Wc K hci _ hK
    simp only [encPr]
    have HCI := hid hci
    have HKK := hid hK
    clear hci hK
    gi_wp2
    exact HKK.out _ _ (KeepsFrom.refl _ _) (fun _ _ h => h) ⟨HCI.out, rfl⟩
  case body =>
    rintro lo t pre x a' Wc hl ⟨r, hr⟩ hpx ⟨H, rfl⟩
    have hxm : x ∈ pairF 0 AA.L := (List.IsPrefix.subset hpx) (by simp)
    obtain ⟨b, hbm, hbh, hbe, hbt⟩ := HMEM.out x hxm
    have y0 : Wc.drew.cell? ⟨W.heap.size, 0, none⟩ = some (.func (.yield lp) #[] #[]) := by rw [World.cell?_drew, cell_of_row Wc W.heap.size 0 _ _ _ H.y]; rfl
    have y1 : Wc.drew.cell? ⟨B b.h, 0, none⟩ = some (.int .u64 b.t) := by rw [World.cell?_drew, cell_of_row Wc (B b.h) 0 _ _ _ (H.c b hbm)]; rfl
    rw [hbe]
    have hJd : J (pre.map (pj L)) Wc.drew := HAJ.out _ _ _ _ H.j (grown_of_below (Below.refl _ _).drew) (fun r e => by cases e)
    obtain ⟨fn, tmps, assign, body, hy, hRd⟩ := HY.out (pre.map (pj L)) (x.1, b.t) Wc.drew hJd trivial
    simp only [encB] at hy
    have HRD := hid (roundIn_wide2 (m := n - 1 - 1 - 1) hRd)
    have HYB := hid H.y
    have HCB := hid H.c
    have hmap : (pre ++ [x]).map (pj L) = (pre.map (pj L)) ++ [(x.1, b.t)] := by simp [pj, hbt]
    have HMAP := hid hmap
    clear H hl hr hpx hRd hmap hxm hbe hbh hbt hJd
    generalize B b.h = q at *
    generalize b.t = tt at *
    gi_wp2
    refine R.wp_region_mix [1, 0, 0, 0, 0, 1, 3, 0] (fun W' => W'.cell? ⟨W.heap.size, 0, none⟩ = some (.func (.yield lp) #[] #[]) ∧ W'.cell? ⟨q, 0, none⟩ = some (.int .u64 tt)) (by kernel_rfl) (by kernel_rfl) ⟨y0, y1⟩ ?_
    repeat (first
      | (refine' E.wpMix_value _ rfl rfl _ _; rotate_left; (solve | (intro W; go_simp) | (intro W; go_simp; with_reducible rfl)); simp only [Act.put, List.setIfInBounds_toArray, List.set_cons_zero, List.set_cons_succ])
      | (refine' E.wpMix_read _ rfl rfl _ _; rotate_left; (solve | (rintro W ⟨h1, h2⟩; go_simp) | (rintro W ⟨h1, h2⟩; go_simp; with_reducible rfl)); simp only [Act.put, List.setIfInBounds_toArray, List.set_cons_zero, List.set_cons_succ]))
    refine E.wpMix_round lp fn tmps assign body (by decide) rfl (by go_simp) ?_
    refine HRD.out.mono ?_
    rintro e W6 (⟨rfl, hJ6, hk6, hf6⟩ | ⟨rfl, hJx6, hf6⟩)
    · refine ⟨_, rfl, (fun h => by cases h), ?_⟩
      simp only [Act.put, List.setIfInBounds_toArray, List.set_cons_zero, List.set_cons_succ]
      have HJ6 := hid hJ6
      have HK6 := hid hk6
      have HF6 := hid hf6
      clear hJ6 hk6 hf6
      refine E.wpMix_value (.bool false) rfl rfl (by intro W; go_simp) ?_
      simp only [Act.put, List.setIfInBounds_toArray, List.set_cons_zero, List.set_cons_succ]
      refine E.wpMix_end ?_
      gi_wp2
      have hkf : KeepsFrom W.heap.size Wc W6 := ⟨HF6.out.size, HF6.out.same⟩
      refine ⟨kf_up hkf (by have := HZ1.out; omega), (fun k cs h => HK6.out k cs _ _ (.inr (.inl rfl)) h), ⟨?_, HK6.out _ _ _ _ (.inr (.inr (.inl rfl))) HYB.out, fun b hb => HK6.out _ _ _ _ (.inr (.inr (.inr rfl))) (HCB.out b hb)⟩⟩
      rw [HMAP.out]; exact HJ6.out
    · refine ⟨_, rfl, (fun h => by cases h), ?_⟩
      simp only [Act.put, List.setIfInBounds_toArray, List.set_cons_zero, List.set_cons_succ]
      have HJ6 := hid hJx6
      have HF6 := hid hf6
      clear hJx6 hf6
      refine E.wpMix_value (.bool true) rfl rfl (by intro W; go_simp) ?_
      simp only [Act.put, List.setIfInBounds_toArray, List.set_cons_zero, List.set_cons_succ]
      refine E.wpMix_end ?_
      gi_wp2
      have hkf : KeepsFrom W.heap.size Wc W6 := ⟨HF6.out.size, HF6.out.same⟩
      refine ⟨kf_up hkf (by have := HZ1.out; omega), rfl, ?_⟩
      rw [HMAP.out]; exact HJ6.out
  case done =>
    rintro D t Wc hD H hK
    have HH := hid H
    clear H
    gi_wp2
    refine ⟨by simp, .inl ⟨_, _, rfl, run_takeDeferred hK, ?_⟩⟩
    refine ⟨_, results_none rfl _ _ _, ⟨_, rfl⟩, .inl ⟨_, rfl, HAJ.out.putObj _ HH.out.j (by have := HZ1.out; omega) hK rfl⟩⟩
  case stop =>
    rintro D c pre Wc hD hp ⟨rfl, h2⟩ hK
    have HH := hid h2
    have HP := hid hp
    clear h2 hp
    gi_wp2
    refine ⟨by simp, .inl ⟨_, _, rfl, run_takeDeferred hK, ?_⟩⟩
    refine ⟨_, results_none rfl _ _ _, ⟨_, rfl⟩, .inr ⟨_, ?_, HAJX.out.putObj _ HH.out (by have := HZ1.out; omega) hK rfl⟩⟩
    exact HP.out.map _
end
end Go.Proofs.Ytmampaglemleoab
