/-
  The program's steps; Check.
-/
import Derived.Test.YtcoclaabainibaaDoorCkD
import Derived.Test.YtcoclaabainibaaDoorMixR
import Derived.Test.YtcoclaabainibaaDoorRng
namespace Go.Proofs.YtcoclaabainibaaDoor
open Go Go.ChangeShapes Go.WideShapes Go.ChangeAt Go.RowKit Go.Shelf
attribute [local go_sem] Oper.semAt_some

/-- The iterator, over its boxes. -/
def itF (b : Nat) : Value := .func (.func 30) #[] #[.pointer (some ⟨b, 0, none⟩), .pointer (some ⟨b + 1, 0, none⟩)]
def StepsP (w : World) (ad : Option Addr) (N c : Nat) (s : Int) (e : Ending) (w' : World) : Prop :=
  e = .returned (itF w.heap.size) ∧ Boxed w' w.heap.size 22 (.slice ad N c) ∧ Boxed w' (w.heap.size + 1) 3 (.int .i64 s) ∧ w'.heap.size = w.heap.size + 2 ∧ Below w.heap.size w w'
set_option maxRecDepth 100000 in
theorem steps_any (ad : Option Addr) (N c : Nat) (s : Int) (w : World) : Calls Tryd.prog 26 #[.slice ad N c, .int .i64 s] w (StepsP w ad N c s) := by
  have b1 := (Boxed.new w 22 (.slice ad N c)).alloc (.cells #[.int .i64 s] 3)
  have b2 := Boxed.new (w.alloc (.cells #[.slice ad N c] 22)) 3 (.int .i64 s)
  rw [World.size_alloc] at b2
  have hb : Below w.heap.size w ((w.alloc (.cells #[.slice ad N c] 22)).alloc (.cells #[.int .i64 s] 3)) := ((Below.refl _ w).alloc (Nat.le_refl _) _).alloc (by simp) _
  have H1 := hid b1
  have H2 := hid b2
  have HB := hid hb
  clear b1 b2 hb
  go_enter Tryd.func26, Tryd.ntmps26
  go_wp2
  go_ret
  exact ⟨rfl, H1.out, H2.out, by simp, HB.out⟩
set_option maxRecDepth 100000 in
theorem steps_tells (n Bl Bs c B N : Nat) (S : Nat → Prop) (ad : Option Addr) (ls : List Ins) (s : Int) (w : World)
    (hBl : Boxed w Bl 22 (.slice ad N c)) (hBs : Boxed w Bs 3 (.int .i64 s)) (hR : RwI w B ad ls) (hB : B ≤ w.heap.size) (hN : N = ls.length) (hNc : N ≤ c) (hc : c ≤ 9223372036854775807) (hok : ∀ x ∈ ls, InsOk x) (hs : J64 s) (hT : TabB w)
    (hS : ∀ k, k < B → S k) (hSl : S Bl) (hSs : S Bs) (hSt : S 0) :
    TellsT 77 Fence.wide n Tryd.prog 30 #[.pointer (some ⟨Bl, 0, none⟩), .pointer (some ⟨Bs, 0, none⟩)] yst (KT S TY) (Told ls s) (ToldTo ls s) 33 w := fun lp J Jx W hW hJ hJx hY h0 =>
  steps_in n lp Bl Bs c B N S ad ls s J Jx W hJ hJx hY ((hW.block Bl hBl.lt).trans hBl) ((hW.block Bs hBs.lt).trans hBs) (hR.kept (hW.mono hB)) hN hNc hc hok hs (hT.on hW) hS hSl hSs hSt h0
set_option maxRecDepth 100000 in
theorem height_leN {ls : List Ins} {s : Int} : (heightP ls s).1.length ≤ ls.length := by
  have key : ∀ j hj oo, runP ls s j = (hj, oo) → hj.length ≤ j := by
    intro j
    induction j with
    | zero => intro hj oo hq; rw [runP] at hq; cases hq; exact Nat.le_refl _
    | succ j ih =>
      intro hj oo hq
      rw [runP] at hq
      cases hp : runP ls s j with
      | mk h0 o0 =>
        rw [hp] at hq
        have := ih _ _ hp
        cases o0 with
        | some e => simp only at hq; cases hq; omega
        | none =>
          simp only at hq
          split at hq <;> cases hq
          · simp; omega
          · omega
  unfold heightP
  split
  · simp
  · cases hr : runP ls s ls.length with
    | mk hs o =>
      have := key _ _ _ hr
      cases o with
      | none => exact this
      | some e => obtain ⟨i, e⟩ := e; exact this
set_option maxRecDepth 100000 in
/-- Check's answer, of what was told. -/
theorem check_done {ls : List Ins} {s : Int} {ys : List Stp} (h : Told ls s ys) (h0 : ∀ x ∈ ys, x.e = 0) : checkP ls s = (mostS ys, 0, 0) := by
  obtain ⟨h1, rfl⟩ := told_done h h0
  unfold checkP
  rw [if_pos h1, good_most height_leN]
set_option maxRecDepth 100000 in
theorem check_stop {ls : List Ins} {s : Int} {p : List Stp} {x : Stp} (h : ToldTo ls s (p ++ [x])) (hx : x.e ≠ 0) : checkP ls s = (0, x.i, x.e) := by
  obtain ⟨h1, h2, h3, _⟩ := told_stop h hx
  unfold checkP
  rw [if_neg h1, h2, h3]
/-- Three boxes. -/
structure B3 (m : Nat) (a b c : Int) (W : World) : Prop where
  b0 : Boxed W m 3 (.int .i64 a)
  b1 : Boxed W (m + 1) 3 (.int .i64 b)
  b2 : Boxed W (m + 2) 26 (.int .i64 c)
set_option maxRecDepth 100000 in
theorem B3.kept {m : Nat} {a b c : Int} {W W' : World} {row : Option Nat} {B : Nat} (h : B3 m a b c W) (hg : W.grownBy W' row) (hr : ∀ r, row = some r → B ≤ r) (hB : m + 2 < B) : B3 m a b c W' :=
  ⟨heap_kept h.b0 hg (fun e => by have := hr _ e.symm; omega), heap_kept h.b1 hg (fun e => by have := hr _ e.symm; omega), heap_kept h.b2 hg (fun e => by have := hr _ e.symm; omega)⟩
set_option maxRecDepth 100000 in
theorem B3.on {m : Nat} {a b c : Int} {W W' : World} (h : B3 m a b c W) (hb : Below W.heap.size W W') : B3 m a b c W' := ⟨(hb.block _ h.b0.lt).trans h.b0, (hb.block _ h.b1.lt).trans h.b1, (hb.block _ h.b2.lt).trans h.b2⟩
/-- Between two rounds of Check. -/
structure CI (w : World) (pre : List Stp) (W : World) : Prop where
  b : B3 w.heap.size (mostS pre) 0 0 W
  e0 : ∀ x ∈ pre, x.e = 0
  below : Below w.heap.size w W
structure CX (w : World) (pre : List Stp) (W : World) : Prop where
  st : ∃ p x, pre = p ++ [x] ∧ x.e ≠ 0 ∧ B3 w.heap.size 0 x.i x.e W
  below : Below w.heap.size w W
/-- A step was taken over. -/
structure CA (w : World) (pre : List Stp) (x : Stp) (g : Nat) (W : World) : Prop where
  i : CI w pre W
  c : W.heap[g]? = some (.cells (stA x.h x.b x.e) 70 (0, 0))
  lt : w.heap.size + 2 < g
set_option maxRecDepth 100000 in
theorem CI.kept {w : World} {pre : List Stp} {W W' : World} {row : Option Nat} {B : Nat} (h : CI w pre W) (hg : W.grownBy W' row) (hr : ∀ r, row = some r → B ≤ r) (hB : w.heap.size + 2 < B) : CI w pre W' :=
  ⟨h.b.kept hg hr hB, h.e0, h.below.grown hg h.below.size (fun k e => by have := hr k e; omega)⟩
set_option maxRecDepth 100000 in
theorem CX.kept {w : World} {pre : List Stp} {W W' : World} {row : Option Nat} {B : Nat} (h : CX w pre W) (hg : W.grownBy W' row) (hr : ∀ r, row = some r → B ≤ r) (hB : w.heap.size + 2 < B) : CX w pre W' :=
  ⟨by obtain ⟨p, x, h1, h2, h3⟩ := h.st; exact ⟨p, x, h1, h2, h3.kept hg hr hB⟩, h.below.grown hg h.below.size (fun k e => by have := hr k e; omega)⟩
set_option maxRecDepth 100000 in
theorem CA.kept {w : World} {pre : List Stp} {x : Stp} {g : Nat} {W W' : World} {row : Option Nat} {B : Nat} (h : CA w pre x g W) (hg : W.grownBy W' row) (hr : ∀ r, row = some r → B ≤ r ∧ ∃ o : Obj, W.heap[r]? = some o ∧ o.isCells = false) (hB : w.heap.size + 2 < B) : CA w pre x g W' :=
  ⟨h.i.kept hg (fun r e => (hr r e).1) hB, heap_kept h.c hg (not_cells h.c (fun r e => (hr r e).2)), h.lt⟩
set_option maxRecDepth 100000 in
theorem kf_below {B : Nat} {W W' : World} (h : Below W.heap.size W W') : KeepsFrom B W W' := ⟨h.size, fun k _ _ hk _ => (h.block k (Array.getElem?_eq_some_iff.1 hk).1).trans hk⟩
set_option maxRecDepth 100000 in
theorem kf_set {B : Nat} (W : World) (p : Addr) (v : Value) (h : p.block < B) : KeepsFrom B W (W.setCell p v) := ⟨by simp, fun k o hk ho _ => (Below.heap_setCell W p v k (fun e => by omega)).trans ho⟩
set_option maxRecDepth 100000 in
theorem kf_tr {B : Nat} {W W' W'' : World} (h : KeepsFrom B W W') (h2 : KeepsFrom B W' W'') : KeepsFrom B W W'' := ⟨Nat.le_trans h.size h2.size, fun k o hk ho hc => h2.same k o hk (h.same k o hk ho hc) hc⟩
set_option maxRecDepth 100000 in
theorem kt_set {S : Nat → Prop} {T : TypeId → Prop} {W : World} {p : Addr} {v : Value} {cs : Array Value} {t : TypeId} {fr : Nat × Nat} (hp : ¬ S p.block) (hb : W.heap[p.block]? = some (.cells cs t fr)) (ht : ¬ T t) : KT S T W (W.setCell p v) := fun k cs' t' fr' hS hk => by
  refine (Below.heap_setCell W p v k (fun e => ?_)).trans hk
  subst e
  rw [hb] at hk
  cases hk
  rcases hS with h | h
  · exact hp h
  · exact ht h
set_option maxRecDepth 100000 in
set_option maxHeartbeats 4000000 in
theorem Check_in (n : Nat) (hn : 3 ≤ n) (ls : List Ins) (s : Int) (ad : Option Addr) (N c : Nat) (w : World) (hT : TabB w) (hok : ∀ x ∈ ls, InsOk x) (hs : J64 s) (hR : RwI w w.heap.size ad ls) (hN : N = ls.length) (hNc : N ≤ c) (hc : c ≤ 9223372036854775807) :
    CallsIn Fence.wide n Tryd.prog 17 #[.slice ad N c, .int .i64 s] w fun e w' => e = .returned (.tuple #[.int .i64 (checkP ls s).1, .int .i64 (checkP ls s).2.1, .int .i64 (checkP ls s).2.2]) ∧ Below w.heap.size w w' := by
  have h1 : 1 ≤ n := by omega
  obtain ⟨w1, hw1⟩ : ∃ w1, w1 = ((w.alloc (.cells #[.int .i64 0] 3)).alloc (.cells #[.int .i64 0] 3)).alloc (.cells #[.int .i64 0] 26) := ⟨_, rfl⟩
  have hb1 : Below w.heap.size w w1 := by rw [hw1]; exact (((Below.refl _ _).alloc (Nat.le_refl _) _).alloc (by simp) _).alloc (by simp; omega) _
  have hz1 : w1.heap.size = w.heap.size + 3 := by rw [hw1]; simp
  have b0 := ((Boxed.new w 3 (.int .i64 0)).alloc (.cells #[.int .i64 0] 3)).alloc (.cells #[.int .i64 0] 26)
  have b1 := (Boxed.new (w.alloc (.cells #[.int .i64 0] 3)) 3 (.int .i64 0)).alloc (.cells #[.int .i64 0] 26)
  have b2 := Boxed.new ((w.alloc (.cells #[.int .i64 0] 3)).alloc (.cells #[.int .i64 0] 3)) 26 (.int .i64 0)
  simp only [World.size_alloc] at b1 b2
  rw [← hw1] at b0 b1 b2
  have HB3 := hid (show B3 w.heap.size 0 0 0 w1 from ⟨b0, b1, b2⟩)
  have HT := hid hT
  have HOK := hid hok
  have HS := hid hs
  have HR := hid hR
  have HN := hid hN
  have HW1 := hid hw1
  have HB1 := hid hb1
  have HZ1 := hid hz1
  have HNC := hid hNc
  have HC := hid hc
  have HST := hid (steps_any ad N c s w1)
  clear hT hok hs hR hN hw1 hb1 hz1 b0 b1 b2 hNc hc
  refine callsIn_of_wp_marks Tryd.func17 rfl trivial ?_ rfl
  simp only [Tryd.ntmps17, List.size_toArray, List.length_cons, List.length_nil, Nat.reduceAdd, Nat.reduceSub, Array.replicate_succ, Array.replicate_zero, List.push_toArray, List.append_toArray, List.nil_append, List.cons_append]
  gi_wp2
  rw [← HW1.out]
  first
    | refine ⟨trivial, (fun h => by cases h), (callsIn_wide.2 HST.out).mono ?_⟩
    | refine ⟨trivial, (callsIn_wide.2 HST.out).mono ?_⟩
    | refine (callsIn_wide.2 HST.out).mono ?_
  rintro e w2 ⟨rfl, hl2, hs2, hz2, hb2⟩
  rw [HZ1.out] at hz2 hl2 hs2
  have hbw2 := HB1.out.trans (hb2.mono HB1.out.size)
  have hst := steps_tells (n - 1) _ _ c w.heap.size N (fun k => k ≠ w.heap.size ∧ k ≠ w.heap.size + 1 ∧ k ≠ w.heap.size + 2) ad ls s w2 hl2 hs2 (HR.out.kept hbw2) hbw2.size HN.out HNC.out HC.out HOK.out HS.out (HT.out.on hbw2) (fun k hk => ⟨by omega, by omega, by omega⟩) ⟨by omega, by omega, by omega⟩ ⟨by omega, by omega, by omega⟩
    (by have := HT.out.lt; exact ⟨by omega, by omega, by omega⟩)
  have HI := hid (show CI w [] w2 from ⟨HB3.out.on hb2, (fun x hx => by cases hx), hbw2⟩)
  have HTL := hid hst
  have hsz : w.heap.size + 2 < w2.heap.size := by omega
  rw [show itF w1.heap.size = .func (.func 30) #[] #[.pointer (some ⟨w.heap.size + 3, 0, none⟩), .pointer (some ⟨w.heap.size + 3 + 1, 0, none⟩)] by rw [HZ1.out]; rfl]
  clear hst hl2 hs2 hb2 hbw2 HST HW1 HB3
  gi_wp2
  refine rangeFunc_T rfl h1 (gf := 30) (lb := #[.pointer (some ⟨w.heap.size + 3, 0, none⟩), .pointer (some ⟨w.heap.size + 3 + 1, 0, none⟩)]) rfl trivial (enters_of Tryd.func30 (by kernel_rfl) rfl)
    HTL.out (fun h k => h.t k) (fun W l o o' _ h2 h3 _ => KT.b W l o o' h2 h3) (fun _ => rfl)
    (fun pre W => CI w pre W) (fun c pre W => c = .ret ∧ CX w pre W)
    (fun _ _ _ _ h hg hr => h.kept hg (fun r e => (hr r e).1) hsz) (fun _ _ _ _ _ ⟨hc, h⟩ hg hr => ⟨hc, h.kept hg (fun r e => (hr r e).1) hsz⟩) HI.out
    (fun pre x a' W => ∃ g, CA w pre x g W ∧ a' = { tmps := #[.slice ad N c, .int .i64 s, undef, undef, .pointer (some ⟨w.heap.size, 0, none⟩), .pointer (some ⟨w.heap.size + 1, 0, none⟩), .pointer (some ⟨w.heap.size + 2, 0, none⟩), .int .i64 x.i, .pointer (some ⟨g, 0, none⟩), .slice ad N c, .int .i64 s, .func (.func 30) #[] #[.pointer (some ⟨w.heap.size + 3, 0, none⟩), .pointer (some ⟨w.heap.size + 3 + 1, 0, none⟩)], .int .i64 x.i, .agg (stA x.h x.b x.e), undef, undef, undef, undef, undef, undef, undef, undef, undef, undef, undef], defers := [] })
    (fun pre x a' _ W W' row ⟨g, hg1, hg2⟩ hg hr => ⟨g, hg1.kept hg (fun r e => hr r e) hsz, hg2⟩) ?assign ?body ?done ?stop
  case assign =>
    intro lp pre x W K hI hlen hK
    have HK := hid hK
    have HII := hid hI
    clear hI hK
    simp only [yst, stA]
    gi_wp2
    have hbn : Below W.heap.size W (W.alloc (.cells (stA x.h x.b x.e) 70)) := (Below.refl _ _).alloc (Nat.le_refl _) _
    refine HK.out _ _ (kf_below hbn) (KT.below hbn) ⟨W.heap.size, ⟨⟨HII.out.b.on hbn, HII.out.e0, HII.out.below.trans (hbn.mono HII.out.below.size)⟩, heap_alloc_new _ _, ?_⟩, rfl⟩
    exact HII.out.b.b2.lt
  case body =>
    rintro lp pre x a' W hlp hloop ⟨g, hA, rfl⟩
    have HA := hid hA
    have e0 := hA.i.b.b0.cell
    have e1 := hA.i.b.b1.cell
    have e2 := hA.i.b.b2.cell
    have f0 := hA.i.b.b0.frozen
    have f1 := hA.i.b.b1.frozen
    have f2 := hA.i.b.b2.frozen
    have c1 : W.cell? ⟨g, 1, none⟩ = some (.int .i64 x.b) := by simp [World.cell?, hA.c, stA]
    have c2 : W.cell? ⟨g, 2, none⟩ = some (.int .i64 x.e) := by simp [World.cell?, hA.c, stA]
    have hgl := hA.lt
    clear hA
    by_cases he : x.e = 0
    · have d0 : (x.e != 0) = false := by simpa using he
      have HE := hid he
      clear he
      gi_wp2
      have hb0 := HA.out.i.b
      refine ⟨kf_set W _ _ (by show w.heap.size < w2.heap.size; omega), kt_set (by simp) hb0.b0 (by unfold TY; decide), ⟨⟨?_, hb0.b1.other (by simp) _, hb0.b2.other (by simp) _⟩, ?_, HA.out.i.below.setCell (p := ⟨w.heap.size, 0, none⟩) (Nat.le_refl _) _⟩⟩
      · rw [mostS_app]; exact hb0.b0.set _
      · intro y hy
        rcases List.mem_append.1 hy with hy | hy
        · exact HA.out.i.e0 y hy
        · simp only [List.mem_singleton] at hy; subst hy; exact HE.out
    · have d0 : (x.e != 0) = true := by simpa using he
      have HE := hid he
      clear he
      gi_wp2
      refine R.wp_region_mix [0, 0, 1, 2, 2, 2] (fun W => W.cell? ⟨g, 2, none⟩ = some (.int .i64 x.e)) (by kernel_rfl) (by kernel_rfl) c2 ?_
      repeat (first
        | (refine' E.wpMix_value _ rfl rfl _ _; rotate_left; (solve | (intro W; go_simp) | (intro W; go_simp; with_reducible rfl)); simp only [Act.put, List.setIfInBounds_toArray, List.set_cons_zero, List.set_cons_succ])
        | (refine' E.wpMix_read _ rfl rfl _ _; rotate_left; (solve | (intro W h1; go_simp) | (intro W h1; go_simp; with_reducible rfl)); simp only [Act.put, List.setIfInBounds_toArray, List.set_cons_zero, List.set_cons_succ]))
      have hb0 := (HA.out.i.b.on (Below.refl _ W).drew)
      have hd0 : W.drew.cell? ⟨g, 2, none⟩ = some (.int .i64 x.e) := c2
      obtain ⟨v0, hv0⟩ : ∃ v0, v0 = W.drew := ⟨_, rfl⟩
      rw [← hv0] at hb0 hd0 ⊢
      have hdr := (Below.refl W.heap.size W).drew
      rw [← hv0] at hdr
      have HDR := hid hdr
      clear hv0 hdr c1 c2 e0 e1 e2 f0 f1 f2
      have q0 := hb0.b0.cell
      have q1 := hb0.b0.frozen
      refine E.wpMix_skip (v0.setCell ⟨w.heap.size, 0, none⟩ (.int .i64 0)) (by decide) rfl (by go_simp) (fun _ => (World.cell?_of_block (Below.heap_setCell v0 ⟨w.heap.size, 0, none⟩ _ g (fun (e : g = w.heap.size) => by omega))).trans hd0) ?_
      simp only [Act.put]
      have hb1 : B3 w.heap.size 0 0 0 (v0.setCell ⟨w.heap.size, 0, none⟩ (.int .i64 0)) := ⟨hb0.b0.set _, hb0.b1.other (by simp) _, hb0.b2.other (by simp) _⟩
      have hd1 := (World.cell?_of_block (Below.heap_setCell v0 ⟨w.heap.size, 0, none⟩ (.int .i64 0) g (fun (e : g = w.heap.size) => by omega))).trans hd0
      clear q0 q1
      obtain ⟨v1, hv1⟩ : ∃ v1, v1 = v0.setCell ⟨w.heap.size, 0, none⟩ (.int .i64 0) := ⟨_, rfl⟩
      have hk1 : Below w.heap.size W v1 ∧ KeepsFrom w2.heap.size W v1 := by
        rw [hv1]
        have hdr := HDR.out
        exact ⟨(hdr.mono HA.out.i.below.size).setCell (p := ⟨w.heap.size, 0, none⟩) (Nat.le_refl _) _, kf_tr (kf_below hdr) (kf_set _ _ _ (by show w.heap.size < w2.heap.size; omega))⟩
      rw [← hv1] at hb1 hd1 ⊢
      clear hv1 hb0 hd0
      have q0 := hb1.b1.cell
      have q1 := hb1.b1.frozen
      refine E.wpMix_skip (v1.setCell ⟨w.heap.size + 1, 0, none⟩ (.int .i64 x.i)) (by decide) rfl (by go_simp) (fun _ => (World.cell?_of_block (Below.heap_setCell v1 ⟨w.heap.size + 1, 0, none⟩ _ g (fun (e : g = w.heap.size + 1) => by omega))).trans hd1) ?_
      simp only [Act.put]
      have hb2 : B3 w.heap.size 0 x.i 0 (v1.setCell ⟨w.heap.size + 1, 0, none⟩ (.int .i64 x.i)) := ⟨hb1.b0.other (by simp) _, hb1.b1.set _, hb1.b2.other (by simp) _⟩
      have hd2 := (World.cell?_of_block (Below.heap_setCell v1 ⟨w.heap.size + 1, 0, none⟩ (.int .i64 x.i) g (fun (e : g = w.heap.size + 1) => by omega))).trans hd1
      clear q0 q1
      obtain ⟨v2, hv2⟩ : ∃ v2, v2 = v1.setCell ⟨w.heap.size + 1, 0, none⟩ (.int .i64 x.i) := ⟨_, rfl⟩
      have hk2 : Below w.heap.size W v2 ∧ KeepsFrom w2.heap.size W v2 := by
        rw [hv2]
        exact ⟨hk1.1.setCell (p := ⟨w.heap.size + 1, 0, none⟩) (by simp) _, kf_tr hk1.2 (kf_set _ _ _ (by show w.heap.size + 1 < w2.heap.size; omega))⟩
      rw [← hv2] at hb2 hd2 ⊢
      clear hv2 hb1 hd1 hk1
      have q0 := hb2.b2.cell
      have q1 := hb2.b2.frozen
      refine E.wpMix_skip (v2.setCell ⟨w.heap.size + 2, 0, none⟩ (.int .i64 x.e)) (by decide) rfl (by go_simp) (fun _ => (World.cell?_of_block (Below.heap_setCell v2 ⟨w.heap.size + 2, 0, none⟩ _ g (fun (e : g = w.heap.size + 2) => by omega))).trans hd2) ?_
      simp only [Act.put]
      have hb3 : B3 w.heap.size 0 x.i x.e (v2.setCell ⟨w.heap.size + 2, 0, none⟩ (.int .i64 x.e)) := ⟨hb2.b0.other (by simp) _, hb2.b1.other (by simp) _, hb2.b2.set _⟩
      clear q0 q1 hd2
      have hk3 : Below w.heap.size W (v2.setCell ⟨w.heap.size + 2, 0, none⟩ (.int .i64 x.e)) ∧ KeepsFrom w2.heap.size W (v2.setCell ⟨w.heap.size + 2, 0, none⟩ (.int .i64 x.e)) :=
        ⟨hk2.1.setCell (p := ⟨w.heap.size + 2, 0, none⟩) (by simp) _, kf_tr hk2.2 (kf_set _ _ _ (by show w.heap.size + 2 < w2.heap.size; omega))⟩
      obtain ⟨v3, hv3⟩ : ∃ v3, v3 = v2.setCell ⟨w.heap.size + 2, 0, none⟩ (.int .i64 x.e) := ⟨_, rfl⟩
      rw [← hv3] at hb3 hk3 ⊢
      have HK3 := hid hk3
      have HB3 := hid hb3
      clear hk3 hb3 hv3 hb2 hk2
      refine E.wpMix_end ?_
      gi_wp2
      refine ⟨HK3.out.2, rfl, ⟨pre, x, rfl, HE.out, HB3.out⟩, ?_⟩
      exact HA.out.i.below.trans HK3.out.1
  case done =>
    rintro D ys W hD hS H hK
    have e0 := H.b.b0.cell
    have e1 := H.b.b1.cell
    have e2 := H.b.b2.cell
    have f0 := H.b.b0.frozen
    have f1 := H.b.b1.frozen
    have f2 := H.b.b2.frozen
    have HH := hid H
    have HSS := hid hS
    have hWf : ∀ Wf, Wf = ((W.setCell ⟨w.heap.size, 0, none⟩ (.int .i64 (mostS ys))).setCell ⟨w.heap.size + 1, 0, none⟩ (.int .i64 0)).setCell ⟨w.heap.size + 1 + 1, 0, none⟩ (.int .i64 0) → B3 w.heap.size (mostS ys) 0 0 Wf ∧ Below w.heap.size W Wf ∧ KeepsFrom w2.heap.size W Wf := by
      rintro Wf rfl
      refine ⟨⟨((H.b.b0.set _).other (by simp <;> omega) _).other (by simp <;> omega) _, ((H.b.b1.other (by simp <;> omega) _).set _).other (by simp <;> omega) _, ((H.b.b2.other (by simp <;> omega) _).other (by simp <;> omega) _).set _⟩, ?_, ?_⟩
      · exact (((Below.refl _ _).setCell (p := ⟨w.heap.size, 0, none⟩) (by simp) _).setCell (p := ⟨w.heap.size + 1, 0, none⟩) (by simp) _).setCell (p := ⟨w.heap.size + 1 + 1, 0, none⟩) (by simp; omega) _
      · exact kf_tr (kf_tr (kf_set _ _ _ (by show w.heap.size < w2.heap.size; omega)) (kf_set _ _ _ (by show w.heap.size + 1 < w2.heap.size; omega))) (kf_set _ _ _ (by show w.heap.size + 1 + 1 < w2.heap.size; omega))
    have HWF := hid hWf
    clear H hS hWf
    gi_wp2
    obtain ⟨Wf, hwf⟩ : ∃ Wf, Wf = ((W.setCell ⟨w.heap.size, 0, none⟩ (.int .i64 (mostS ys))).setCell ⟨w.heap.size + 1, 0, none⟩ (.int .i64 0)).setCell ⟨w.heap.size + 1 + 1, 0, none⟩ (.int .i64 0) := ⟨_, rfl⟩
    obtain ⟨hb3, hbf, hkf⟩ := HWF.out Wf hwf
    rw [← hwf]
    have hK' := hkf.same D _ hD hK rfl
    refine ⟨by simp, .inl ⟨_, _, rfl, run_takeDeferred hK', ?_⟩⟩
    have c0 := cell_kept hb3.b0.cell (grownBy_putObj' _ D (.deferred none)) (fun r e => by cases e; exact ⟨_, hK', rfl⟩)
    have c1 := cell_kept hb3.b1.cell (grownBy_putObj' _ D (.deferred none)) (fun r e => by cases e; exact ⟨_, hK', rfl⟩)
    have c2 := cell_kept hb3.b2.cell (grownBy_putObj' _ D (.deferred none)) (fun r e => by cases e; exact ⟨_, hK', rfl⟩)
    refine ⟨_, ?_, by rw [check_done HSS.out HH.out.e0], (HH.out.below.trans hbf).trans (belowK_b (w := w) (Nat.le_refl _) _ D _ _ (by omega) hK' rfl rfl)⟩
    simp [results, Tryd.f17, go_sem, c0, c1, c2]
  case stop =>
    rintro D c pre W hD hp ⟨rfl, H⟩ hK
    obtain ⟨p, x, rfl, hx, hb⟩ := H.st
    have HB := hid hb
    have HH := hid H
    have HX := hid hx
    have HP := hid hp
    clear H hx hp hb
    gi_wp2
    refine ⟨by simp, .inl ⟨_, _, rfl, run_takeDeferred hK, ?_⟩⟩
    have c0 := cell_kept HB.out.b0.cell (grownBy_putObj' _ D (.deferred none)) (fun r e => by cases e; exact ⟨_, hK, rfl⟩)
    have c1 := cell_kept HB.out.b1.cell (grownBy_putObj' _ D (.deferred none)) (fun r e => by cases e; exact ⟨_, hK, rfl⟩)
    have c2 := cell_kept HB.out.b2.cell (grownBy_putObj' _ D (.deferred none)) (fun r e => by cases e; exact ⟨_, hK, rfl⟩)
    refine ⟨_, ?_, by rw [check_stop HP.out HX.out], HH.out.below.trans (belowK_b (w := w) (Nat.le_refl _) _ D _ _ (by omega) hK rfl rfl)⟩
    simp [results, Tryd.f17, go_sem, c0, c1, c2]
set_option maxRecDepth 100000 in
theorem Check_any (ls : List Ins) (s : Int) (ad : Option Addr) (N c : Nat) (w : World) (hT : TabB w) (hok : ∀ x ∈ ls, InsOk x) (hs : J64 s) (hR : RwI w w.heap.size ad ls) (hN : N = ls.length) (hNc : N ≤ c) (hc : c ≤ 9223372036854775807) :
    Calls Tryd.prog 17 #[.slice ad N c, .int .i64 s] w fun e w' => e = .returned (.tuple #[.int .i64 (checkP ls s).1, .int .i64 (checkP ls s).2.1, .int .i64 (checkP ls s).2.2]) ∧ Below w.heap.size w w' :=
  (callsIn_wide (n := 3)).1 (Check_in 3 (by omega) ls s ad N c w hT hok hs hR hN hNc hc)
end Go.Proofs.YtcoclaabainibaaDoor
