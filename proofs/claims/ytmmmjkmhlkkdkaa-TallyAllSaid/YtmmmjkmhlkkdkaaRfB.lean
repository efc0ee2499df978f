/-
  The contracts of the plain twin's Up and Down.
-/
import Derived.Test.YtmmmjkmhlkkdkaaRfA
import Derived.Test.YtmmmjkmhlkkdkaaMixD
namespace Go.Proofs.Ytmmmjkmhlkkdkaa
open Go.ChangeShapes Go.WideShapes Go.ChangeAt Go.RowKit Go.Maps Go.Shelf

/-- Counts that may be, noughts among them. -/
structure GoodR (most : Int) (R : TM) : Prop where
  rise : Rising R
  lo : ∀ p ∈ R, 0 ≤ p.2
  hi : ∀ p ∈ R, p.2 ≤ most
theorem GoodR.get {most : Int} {R : TM} (h : GoodR most R) (h0 : 0 ≤ most) (k : Int) : 0 ≤ getM R k ∧ getM R k ≤ most := by
  rcases get_mem (l := R) (k := k) with e | e
  · omega
  · exact ⟨h.lo _ e, h.hi _ e⟩
theorem GoodR.set {most : Int} {R : TM} (h : GoodR most R) (k c : Int) (h0 : 0 ≤ c) (h1 : c ≤ most) : GoodR most (setR R k c) := by
  refine ⟨h.rise.setR k c, fun p hp => ?_, fun p hp => ?_⟩
  all_goals
    unfold setR at hp
    rcases List.mem_append.1 hp with hp | hp
    · have := (ltM_mem hp).1
      first | exact h.lo p this | exact h.hi p this
    · rcases List.mem_cons.1 hp with rfl | hp
      · first | exact h0 | exact h1
      · have := (gtM_mem hp).1
        first | exact h.lo p this | exact h.hi p this
theorem at_any (w : World) (p : Nat) (lv : Value) (most k : Int) (R : TM) (h : RfT w p lv most R) (hr : Rising R) (hl : R.length ≤ 100000) :
    Calls Try.prog 31 #[.pointer (some ⟨p, 0, none⟩), .int .u64 k] w (AtPost w p most R k) := by
  rcases h.shape with ⟨rfl, rfl⟩ | ⟨g, cap, rfl, hc, _⟩
  · exact at_nil w p most k h
  · exact at_some w p g R.length cap most k R h rfl hc hr hl
theorem RfT.stored {w : World} {p g cap n i : Nat} {most k c d : Int} {R : TM} (h : RfT w p (.slice (some ⟨g, 0, none⟩) n cap) most (setR R k c)) (hn : n = (setR R k c).length) (hi : i = (ltM R k).length) :
    RfT (w.setCell ⟨g, i * 2 + 1, none⟩ (.int .u32 d)) p (.slice (some ⟨g, 0, none⟩) n cap) most (setR R k d) := by
  have hpg : p < g := by
    have hr := h.row; rw [← hn] at hr
    have := (hr.lt g rfl).1; omega
  refine ⟨by rw [Below.heap_setCell _ _ _ _ (by simp; omega)]; exact h.hp, ?_⟩
  have hr := h.row
  rw [← hn] at hr
  have h1 := (hr.stored (i * 2 + 1) (.int .u32 d)).1
  have hl : (setR R k d).length = n := by rw [hn]; simp [setR]
  have e : ((setR R k c).flatMap encE).set (i * 2 + 1) (.int .u32 d) = (setR R k d).flatMap encE := by
    subst hi
    unfold setR
    rw [List.flatMap_append, List.flatMap_append, List.flatMap_cons, List.flatMap_cons, List.set_append_right _ _ (by rw [flat_len]; omega), flat_len]
    congr 1
    rw [show (ltM R k).length * 2 + 1 - (ltM R k).length * 2 = 1 from by omega]
    rfl
  rw [e] at h1
  rw [hl]
  exact h1
def RfPost (w : World) (p : Nat) (most : Int) (R' : TM) (c : Int) (ok : Bool) (e : Ending) (w' : World) : Prop :=
  e = .returned (.tuple #[.int .u32 c, .bool ok]) ∧ (∃ lv', RfT w' p lv' most R') ∧ Fr (fun j => p ≤ j) w w'

set_option maxHeartbeats 1000000 in
set_option maxRecDepth 100000 in
theorem RUp_no (w : World) (p : Nat) (lv : Value) (most k x : Int) (R : TM) (h : RfT w p lv most R) (hg : GoodR most R) (hm : 0 ≤ most ∧ most ≤ 4294967295) (hl : R.length ≤ 10000) (hx : 0 ≤ x ∧ x ≤ 4294967295) (hc : most < getM R k + x) :
    Calls Try.prog 23 #[.pointer (some ⟨p, 0, none⟩), .int .u64 k, .int .u32 x] w (RfPost w p most (setR R k (getM R k)) (getM R k) false) := by
  have hat := hid (at_any w p lv most k R h hg.rise (by omega))
  have hb := hg.get hm.1 k
  have hsl := setR_len R k (getM R k) hg.rise
  obtain ⟨c, hcc⟩ : ∃ c, c = getM R k := ⟨_, rfl⟩
  obtain ⟨i, hi⟩ : ∃ i, i = (ltM R k).length := ⟨_, rfl⟩
  have hat2 := hat.out
  unfold AtPost at hat2
  rw [← hcc, ← hi] at hat2
  rw [← hcc] at hb hc hsl
  rw [← hcc]
  have HAT := hid hat2
  have HI := hid hi
  obtain ⟨m0, m1⟩ := hm
  obtain ⟨x0, x1⟩ := hx
  obtain ⟨b0, b1⟩ := hb
  clear hat hat2 hcc hi h hg
  have hd : decide (most < c + x) = true := by simp; omega
  have hw2 : IntKind.u64.wrap (c + x) = c + x := IntWalk.u64_in _ (by omega)
  go_enter Try.func23, Try.ntmps23
  go_wp2_with fail
  refine HAT.out.mono ?_
  rintro e w1 ⟨rfl, ⟨lv1, h1⟩, f1⟩
  obtain ⟨g, cap, rfl, hcap, hpg⟩ : ∃ g cap, lv1 = .slice (some ⟨g, 0, none⟩) (setR R k c).length cap ∧ (setR R k c).length ≤ cap ∧ p < g := by
    rcases h1.shape with ⟨e, _⟩ | h2
    · have := setR_at R k c; rw [e] at this; cases this
    · exact h2
  have hx1 := setR_at R k c
  rw [← HI.out] at hx1
  have hin : i < (setR R k c).length := (List.getElem?_eq_some_iff.1 hx1).1
  obtain ⟨a0, a1⟩ := h1.at hx1
  simp only at a0 a1
  obtain ⟨n, hn⟩ : ∃ n, n = (setR R k c).length := ⟨_, rfl⟩
  have c0 := h1.c0
  have c1 := h1.c1
  have za := h1.row.frozenAt (i * 2 + 1)
  rw [← hn] at h1 c1 hcap hin hsl
  have H1 := hid h1
  have F1 := hid f1
  have HN := hid hn
  clear h1 f1 hx1 hn HAT
  go_wp2
  go_quiet (fail)
  go_wp2
  go_ret2
  exact ⟨rfl, ⟨_, (H1.out.fr (fp := fun _ => False) ((Fr.refl _ _).drewN _) (fun _ _ h => h))⟩, F1.out.drewN _⟩

set_option maxHeartbeats 1000000 in
set_option maxRecDepth 100000 in
theorem RDown_no (w : World) (p : Nat) (lv : Value) (most k x : Int) (R : TM) (h : RfT w p lv most R) (hg : GoodR most R) (hm : 0 ≤ most ∧ most ≤ 4294967295) (hl : R.length ≤ 10000) (hx : 0 ≤ x ∧ x ≤ 4294967295) (hc : getM R k < x) :
    Calls Try.prog 22 #[.pointer (some ⟨p, 0, none⟩), .int .u64 k, .int .u32 x] w (RfPost w p most (setR R k (getM R k)) (getM R k) false) := by
  have hat := hid (at_any w p lv most k R h hg.rise (by omega))
  have hb := hg.get hm.1 k
  have hsl := setR_len R k (getM R k) hg.rise
  obtain ⟨c, hcc⟩ : ∃ c, c = getM R k := ⟨_, rfl⟩
  obtain ⟨i, hi⟩ : ∃ i, i = (ltM R k).length := ⟨_, rfl⟩
  have hat2 := hat.out
  unfold AtPost at hat2
  rw [← hcc, ← hi] at hat2
  rw [← hcc] at hb hc hsl
  rw [← hcc]
  have HAT := hid hat2
  have HI := hid hi
  obtain ⟨m0, m1⟩ := hm
  obtain ⟨x0, x1⟩ := hx
  obtain ⟨b0, b1⟩ := hb
  clear hat hat2 hcc hi h hg
  have hd : decide (c < x) = true := by simp; omega
  go_enter Try.func22, Try.ntmps22
  go_wp2_with fail
  refine HAT.out.mono ?_
  rintro e w1 ⟨rfl, ⟨lv1, h1⟩, f1⟩
  obtain ⟨g, cap, rfl, hcap, hpg⟩ : ∃ g cap, lv1 = .slice (some ⟨g, 0, none⟩) (setR R k c).length cap ∧ (setR R k c).length ≤ cap ∧ p < g := by
    rcases h1.shape with ⟨e, _⟩ | h2
    · have := setR_at R k c; rw [e] at this; cases this
    · exact h2
  have hx1 := setR_at R k c
  rw [← HI.out] at hx1
  have hin : i < (setR R k c).length := (List.getElem?_eq_some_iff.1 hx1).1
  obtain ⟨a0, a1⟩ := h1.at hx1
  simp only at a0 a1
  obtain ⟨n, hn⟩ : ∃ n, n = (setR R k c).length := ⟨_, rfl⟩
  have c0 := h1.c0
  have c1 := h1.c1
  have za := h1.row.frozenAt (i * 2 + 1)
  rw [← hn] at h1 c1 hcap hin hsl
  have H1 := hid h1
  have F1 := hid f1
  have HN := hid hn
  clear h1 f1 hx1 hn HAT
  go_wp2
  go_ret2
  exact ⟨rfl, ⟨_, H1.out⟩, F1.out⟩

set_option maxHeartbeats 1000000 in
set_option maxRecDepth 100000 in
theorem RUp_yes (w : World) (p : Nat) (lv : Value) (most k x : Int) (R : TM) (h : RfT w p lv most R) (hg : GoodR most R) (hm : 0 ≤ most ∧ most ≤ 4294967295) (hl : R.length ≤ 10000) (hx : 0 ≤ x ∧ x ≤ 4294967295) (hc : getM R k + x ≤ most) :
    Calls Try.prog 23 #[.pointer (some ⟨p, 0, none⟩), .int .u64 k, .int .u32 x] w (RfPost w p most (setR R k (getM R k + x)) (getM R k + x) true) := by
  have hat := hid (at_any w p lv most k R h hg.rise (by omega))
  have hb := hg.get hm.1 k
  have hsl := setR_len R k (getM R k) hg.rise
  obtain ⟨c, hcc⟩ : ∃ c, c = getM R k := ⟨_, rfl⟩
  obtain ⟨i, hi⟩ : ∃ i, i = (ltM R k).length := ⟨_, rfl⟩
  have hat2 := hat.out
  unfold AtPost at hat2
  rw [← hcc, ← hi] at hat2
  rw [← hcc] at hb hc hsl
  rw [← hcc]
  have HAT := hid hat2
  have HI := hid hi
  obtain ⟨m0, m1⟩ := hm
  obtain ⟨x0, x1⟩ := hx
  obtain ⟨b0, b1⟩ := hb
  clear hat hat2 hcc hi h hg
  have hd : decide (most < c + x) = false := by simp; omega
  have hw2 : IntKind.u64.wrap (c + x) = c + x := IntWalk.u64_in _ (by omega)
  have hw1 : IntKind.u32.wrap (c + x) = c + x := IntWalk.u32_in _ (by omega)
  go_enter Try.func23, Try.ntmps23
  go_wp2_with fail
  refine HAT.out.mono ?_
  rintro e w1 ⟨rfl, ⟨lv1, h1⟩, f1⟩
  obtain ⟨g, cap, rfl, hcap, hpg⟩ : ∃ g cap, lv1 = .slice (some ⟨g, 0, none⟩) (setR R k c).length cap ∧ (setR R k c).length ≤ cap ∧ p < g := by
    rcases h1.shape with ⟨e, _⟩ | h2
    · have := setR_at R k c; rw [e] at this; cases this
    · exact h2
  have hx1 := setR_at R k c
  rw [← HI.out] at hx1
  have hin : i < (setR R k c).length := (List.getElem?_eq_some_iff.1 hx1).1
  obtain ⟨a0, a1⟩ := h1.at hx1
  simp only at a0 a1
  obtain ⟨n, hn⟩ : ∃ n, n = (setR R k c).length := ⟨_, rfl⟩
  have c0 := h1.c0
  have c1 := h1.c1
  have za := h1.row.frozenAt (i * 2 + 1)
  rw [← hn] at h1 c1 hcap hin hsl
  have H1 := hid h1
  have F1 := hid f1
  have HN := hid hn
  clear h1 f1 hx1 hn HAT
  go_wp2
  go_quiet (fail)
  go_wp2
  have hpg1 : ¬ p = g := by omega
  have hpg2 : ¬ g = p := by omega
  refine D.wp_region_mix [0, 0, 0, 1, 0, 0, 0, 0, 1, 0, 0, 0, 1, 0, 0, 0, 0, 3] (fun W => W.cell? ⟨p, 1, none⟩ = some (.slice (some ⟨g, 0, none⟩) n cap) ∧ W.cell? ⟨g, i * 2 + 1, none⟩ = some (.int .u32 c)) (by kernel_rfl) (by kernel_rfl) ⟨by simpa using c1, by simpa using a1⟩ ?_
  repeat (first
    | (refine' C.wpMix_value _ rfl rfl _ _; rotate_left; (solve | (intro W; go_simp) | (intro W; go_simp; with_reducible rfl)); simp only [Act.put, List.setIfInBounds_toArray, List.set_cons_zero, List.set_cons_succ])
    | (refine' C.wpMix_read _ rfl rfl _ _; rotate_left; (solve | (rintro W ⟨h1, h2⟩; go_simp) | (rintro W ⟨h1, h2⟩; go_simp; with_reducible rfl)); simp only [Act.put, List.setIfInBounds_toArray, List.set_cons_zero, List.set_cons_succ]))
  refine C.wpMix_skip (World.setCell ((w1.drewN nq).drew) ⟨g, i * 2 + 1, none⟩ (.int .u32 (c + x))) (by decide) rfl ?nrun (fun h => by cases h) ?nrest
  case nrun => go_simp
  simp only [Act.put]
  refine C.wpMix_end ?_
  go_wp2
  go_ret2
  refine ⟨rfl, ⟨_, RfT.stored (c := c) (H1.out.fr (fp := fun _ => False) (w' := (w1.drewN nq).drew) (((Fr.refl _ _).drewN _).drew) (fun _ _ h => h)) HN.out HI.out⟩, ?_⟩
  exact ((F1.out.drewN nq).drew).setCell _ _ (fun _ => by simp; omega)

set_option maxHeartbeats 1000000 in
set_option maxRecDepth 100000 in
theorem RDown_yes (w : World) (p : Nat) (lv : Value) (most k x : Int) (R : TM) (h : RfT w p lv most R) (hg : GoodR most R) (hm : 0 ≤ most ∧ most ≤ 4294967295) (hl : R.length ≤ 10000) (hx : 0 ≤ x ∧ x ≤ 4294967295) (hc : x ≤ getM R k) :
    Calls Try.prog 22 #[.pointer (some ⟨p, 0, none⟩), .int .u64 k, .int .u32 x] w (RfPost w p most (setR R k (getM R k - x)) (getM R k - x) true) := by
  have hat := hid (at_any w p lv most k R h hg.rise (by omega))
  have hb := hg.get hm.1 k
  have hsl := setR_len R k (getM R k) hg.rise
  obtain ⟨c, hcc⟩ : ∃ c, c = getM R k := ⟨_, rfl⟩
  obtain ⟨i, hi⟩ : ∃ i, i = (ltM R k).length := ⟨_, rfl⟩
  have hat2 := hat.out
  unfold AtPost at hat2
  rw [← hcc, ← hi] at hat2
  rw [← hcc] at hb hc hsl
  rw [← hcc]
  have HAT := hid hat2
  have HI := hid hi
  obtain ⟨m0, m1⟩ := hm
  obtain ⟨x0, x1⟩ := hx
  obtain ⟨b0, b1⟩ := hb
  clear hat hat2 hcc hi h hg
  have hd : decide (c < x) = false := by simp; omega
  have hw1 : IntKind.u32.wrap (c - x) = c - x := IntWalk.u32_in _ (by omega)
  go_enter Try.func22, Try.ntmps22
  go_wp2_with fail
  refine HAT.out.mono ?_
  rintro e w1 ⟨rfl, ⟨lv1, h1⟩, f1⟩
  obtain ⟨g, cap, rfl, hcap, hpg⟩ : ∃ g cap, lv1 = .slice (some ⟨g, 0, none⟩) (setR R k c).length cap ∧ (setR R k c).length ≤ cap ∧ p < g := by
    rcases h1.shape with ⟨e, _⟩ | h2
    · have := setR_at R k c; rw [e] at this; cases this
    · exact h2
  have hx1 := setR_at R k c
  rw [← HI.out] at hx1
  have hin : i < (setR R k c).length := (List.getElem?_eq_some_iff.1 hx1).1
  obtain ⟨a0, a1⟩ := h1.at hx1
  simp only at a0 a1
  obtain ⟨n, hn⟩ : ∃ n, n = (setR R k c).length := ⟨_, rfl⟩
  have c0 := h1.c0
  have c1 := h1.c1
  have za := h1.row.frozenAt (i * 2 + 1)
  rw [← hn] at h1 c1 hcap hin hsl
  have H1 := hid h1
  have F1 := hid f1
  have HN := hid hn
  clear h1 f1 hx1 hn HAT
  go_wp2
  have hpg1 : ¬ p = g := by omega
  have hpg2 : ¬ g = p := by omega
  refine D.wp_region_mix [0, 0, 0, 1, 0, 0, 0, 0, 1, 0, 0, 0, 1, 0, 0, 0, 0, 3] (fun W => W.cell? ⟨p, 1, none⟩ = some (.slice (some ⟨g, 0, none⟩) n cap) ∧ W.cell? ⟨g, i * 2 + 1, none⟩ = some (.int .u32 c)) (by kernel_rfl) (by kernel_rfl) ⟨by simpa using c1, by simpa using a1⟩ ?_
  repeat (first
    | (refine' C.wpMix_value _ rfl rfl _ _; rotate_left; (solve | (intro W; go_simp) | (intro W; go_simp; with_reducible rfl)); simp only [Act.put, List.setIfInBounds_toArray, List.set_cons_zero, List.set_cons_succ])
    | (refine' C.wpMix_read _ rfl rfl _ _; rotate_left; (solve | (rintro W ⟨h1, h2⟩; go_simp) | (rintro W ⟨h1, h2⟩; go_simp; with_reducible rfl)); simp only [Act.put, List.setIfInBounds_toArray, List.set_cons_zero, List.set_cons_succ]))
  refine C.wpMix_skip (World.setCell (w1.drew) ⟨g, i * 2 + 1, none⟩ (.int .u32 (c - x))) (by decide) rfl ?nrun (fun h => by cases h) ?nrest
  case nrun => go_simp
  simp only [Act.put]
  refine C.wpMix_end ?_
  go_wp2
  go_ret2
  refine ⟨rfl, ⟨_, RfT.stored (c := c) (H1.out.fr (fp := fun _ => False) (w' := w1.drew) ((Fr.refl _ _).drew) (fun _ _ h => h)) HN.out HI.out⟩, ?_⟩
  exact (F1.out.drew).setCell _ _ (fun _ => by simp; omega)
end Go.Proofs.Ytmmmjkmhlkkdkaa
