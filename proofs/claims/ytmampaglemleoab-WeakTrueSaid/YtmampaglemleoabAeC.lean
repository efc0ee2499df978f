/-
  The contracts of an arena's Put, Get, Set, Drop, Len, by the arena's value and its footprint.
-/
import Derived.Test.YtmampaglemleoabAeB
namespace Go.Proofs.Ytmampaglemleoab
open Go.ChangeShapes Go.WideShapes Go.ChangeAt Go.RowKit

/-- takePlace, whichever place it is. -/
def TakePost (w : World) (p : Nat) (cv fv : Value) (A A' : Ar) (c i g : Nat) (x : Int) (e : Ending) (w' : World) : Prop :=
  ∃ cv1 fv1 L1 s1, e = .returned (.tuple #[.int .i64 i, .bool true]) ∧ ArW w' p cv1 fv1 { A with L := L1, F := A'.F } c ∧ Fr (fun k => k = p ∨ cv.ownBlock = some k) w w' ∧
    (∀ k, cv1.ownBlock = some k → cv.ownBlock = some k ∨ w.heap.size ≤ k) ∧ (∀ k, fv1.ownBlock = some k → fv.ownBlock = some k) ∧ L1[i]? = some s1 ∧ s1.g = g ∧ s1.t = false ∧ cnt L1 = cnt A.L ∧ A' = { A with L := L1.set i ⟨x, g, true⟩, F := A'.F }
theorem take_some (w : World) (p : Nat) (cv fv : Value) (A A' : Ar) (c i g : Nat) (x : Int) (h : ArW w p cv fv A c) (hA : Ok A) (hp : Put A x i g A') :
    Calls Try.prog 43 #[.pointer (some ⟨p, 0, none⟩)] w (TakePost w p cv fv A A' c i g x) := by
  cases hp with
  | again F i s hF hs =>
    refine (take_again w p cv fv A c i F h hF (by have := hA.fl; have := hA.len; have := hA.m2; omega)).mono ?_
    rintro e w' ⟨b, k, hfv, rfl, rfl⟩
    obtain ⟨s', hs', ht⟩ := hA.fr i (by rw [hF]; simp)
    rw [hs] at hs'; cases hs'
    have hfr : Fr (fun k => k = p) w (w.setCell ⟨p, 3, none⟩ (.slice (some ⟨b, 0, none⟩) F.length k)) := (Fr.refl _ _).setCell _ _ (fun _ => rfl)
    refine ⟨cv, .slice (some ⟨b, 0, none⟩) F.length k, A.L, s, rfl, ?_, hfr.mono (fun _ e _ => .inl e), fun k hk => .inl hk, fun k hk => by rw [hfv]; exact hk, hs, rfl, ht, rfl, rfl⟩
    refine h.newf F (hfr.mono (fun _ e _ => .inl e)) (by rw [heap_setCell_same _ _ _ _ _ _ h.hp]; rfl) ?_ (fun k hk => .inl (by rw [hfv]; exact hk))
    have h1 := h.hf
    rw [hfv, hF] at h1
    have hbp : b ≠ p := fun e => h.d2 (by rw [hfv, e]; rfl)
    refine ownsRow_setCell_other ?_ (by simp [Value.ownBlock]; exact hbp) _
    have h2 : w.ownsRow 0 3 1 (.slice (some ⟨b, 0, none⟩) (F.length + 1) k) (F.length + 1) (rowF F ++ rowF [i]) := by
      have e1 : rowF (F ++ [i]) = rowF F ++ rowF [i] := by simp [rowF]
      rw [e1] at h1
      simpa using h1
    exact owns_cut h2 (by simp [rowF]) (by omega)
  | fresh hF hl =>
    refine (take_fresh w p cv fv A c h hA hF hl).mono ?_
    rintro e w' ⟨cv', rfl, h1, h2, h3⟩
    exact ⟨cv', fv, _, ⟨0, A.first, false⟩, rfl, h1, h2, h3, fun k hk => hk, by simp, rfl, rfl, by simp [cnt], by simp⟩

theorem ArW.setL {w : World} {p : Nat} {fv : Value} {A : Ar} {c i b n k : Nat} {s s' : Spot} (h : ArW w p (.slice (some ⟨b, 0, none⟩) n k) fv A c) (hn : A.L.length = n) (hs : A.L[i]? = some s) (j : Nat) (v : Value) (hj : j < 3) (hv : s.cellsE.set j v = s'.cellsE) :
    ArW (w.setCell ⟨b, i * 3 + j, none⟩ v) p (.slice (some ⟨b, 0, none⟩) n k) fv { A with L := A.L.set i s' } c := by
  have hbp : b ≠ p := fun e => h.d1 (by rw [e]; rfl)
  refine h.newc (A.L.set i s') ((Fr.refl _ _).setCell _ _ (fun _ => .inr rfl)) (by rw [Below.heap_setCell _ _ _ _ (Ne.symm hbp)]; exact h.hp) ?_ (fun k hk => .inl hk)
  have h1 := h.hc
  rw [hn] at h1
  have := (h1.stored (i * 3 + j) v).1
  rw [rowE_set _ _ _ _ _ _ hs hj hv] at this
  rw [List.length_set, hn]
  exact this
theorem ArW.setc {w : World} {p : Nat} {cv fv : Value} {A : Ar} {c : Nat} (h : ArW w p cv fv A c) (c' : Nat) : ArW (w.setCell ⟨p, 4, none⟩ (.int .i64 c')) p cv fv A c' := by
  refine h.newc A.L ((Fr.refl _ _).setCell _ _ (fun _ => .inl rfl)) (by rw [heap_setCell_same _ _ _ _ _ _ h.hp]; rfl) ?_ (fun k hk => .inl hk)
  exact ownsRow_setCell_other h.hc h.d1 _

/-- An arena of numbers at a pointer, in a footprint. -/
def InS (S : Nat → Prop) (w : World) (p : Nat) (A : Ar) : Prop :=
  ∃ cv fv, ArW w p cv fv A (cnt A.L) ∧ Ok A ∧ S p ∧ (∀ k, cv.ownBlock = some k → S k) ∧ (∀ k, fv.ownBlock = some k → S k) ∧ ∀ k, S k → k < w.heap.size
def ext (S : Nat → Prop) (w w' : World) : Nat → Prop := fun k => S k ∨ (w.heap.size ≤ k ∧ k < w'.heap.size)
theorem InS.lt {S : Nat → Prop} {w : World} {p : Nat} {A : Ar} (h : InS S w p A) : ∀ k, S k → k < w.heap.size := by
  obtain ⟨_, _, _, _, _, _, _, h⟩ := h; exact h
theorem InS.ok {S : Nat → Prop} {w : World} {p : Nat} {A : Ar} (h : InS S w p A) : Ok A := by
  obtain ⟨_, _, _, h, _⟩ := h; exact h
theorem InS.fr {S fp : Nat → Prop} {w w' : World} {p : Nat} {A : Ar} (h : InS S w p A) (hf : Fr fp w w') (hd : ∀ k, S k → ¬ fp k) : InS S w' p A := by
  obtain ⟨cv, fv, h1, h2, h3, h4, h5, h6⟩ := h
  exact ⟨cv, fv, h1.fr hf (hd _ h3) (fun k hk => hd k (h4 k hk)) (fun k hk => hd k (h5 k hk)), h2, h3, h4, h5, fun k hk => Nat.lt_of_lt_of_le (h6 k hk) hf.size⟩
theorem InS.wider {S : Nat → Prop} {w w' : World} {p : Nat} {A : Ar} (h : InS S w' p A) : InS (ext S w w') w' p A := by
  obtain ⟨cv, fv, h1, h2, h3, h4, h5, h6⟩ := h
  exact ⟨cv, fv, h1, h2, .inl h3, fun k hk => .inl (h4 k hk), fun k hk => .inl (h5 k hk), fun k hk => by rcases hk with hk | hk; exact h6 k hk; exact hk.2⟩
theorem Put.cnt {A A' : Ar} {x : Int} {i g : Nat} (h : Ok A) (hp : Put A x i g A') : cnt A'.L = cnt A.L + 1 := by
  cases hp with
  | again F i s hF hs =>
    obtain ⟨s', hs', ht⟩ := h.fr i (by rw [hF]; simp)
    rw [hs] at hs'; cases hs'
    have := cnt_set A.L i s ⟨x, s.g, true⟩ hs
    simp [ht] at this
    simpa using this
  | fresh hF hl => simp [cnt_append]; rfl

def PutPost (S : Nat → Prop) (w : World) (p : Nat) (A' : Ar) (i g : Nat) (e : Ending) (w' : World) : Prop :=
  e = .returned (.tuple #[.int .u64 (hand i g), .int .i64 0]) ∧ InS (ext S w w') w' p A' ∧ Fr S w w'
set_option maxHeartbeats 400000 in
theorem Put_some (S : Nat → Prop) (w : World) (p : Nat) (A A' : Ar) (i g : Nat) (x : Int) (h : InS S w p A) (hp : Put A x i g A') :
    Calls Try.prog 37 #[.pointer (some ⟨p, 0, none⟩), encE x] w (PutPost S w p A' i g) := by
  obtain ⟨cv, fv, h1, h2, h3, h4, h5, h6⟩ := h
  have ht := take_some w p cv fv A A' (cnt A.L) i g x h1 h2 hp
  have hl := h2.len
  have hm := h2.m2
  have hcl := cnt_le A.L
  have hlen' := (hp.ok h2).len
  have hm' := (hp.ok h2).m2
  have hcnt := hid (hp.cnt h2)
  have hok' := hid (hp.ok h2)
  have hgen' := (hp.ok h2).gen
  clear h1 hp
  go_enter Try.func37, Try.ntmps37
  go_wp2_with fail
  refine ht.mono ?_
  rintro e w1 ⟨cv1, fv1, L1, s1, rfl, a1, a2, a3, a4, a5, rfl, a6, a7, a8⟩
  have hi : i < L1.length := (List.getElem?_eq_some_iff.1 a5).1
  obtain ⟨b, k, hcv⟩ := a1.form a5
  subst hcv
  have hLl : L1.length ≤ 65536 := by rw [a8] at hlen'; simp at hlen'; omega
  have hg := hgen' i ⟨x, s1.g, true⟩ (by rw [a8]; simp [hi])
  have hbp : b ≠ p := fun e => a1.d1 (by rw [e]; rfl)
  have hpb : p ≠ b := Ne.symm hbp
  have c2 := a1.c2
  have c4 := a1.c4
  have z4 := a1.fz 4
  have g0 := a1.at a5 rfl 0 (by omega)
  have g1 := a1.at a5 rfl 1 (by omega)
  have g2 := a1.at a5 rfl 2 (by omega)
  simp only [Spot.cellsE, List.getElem?_cons_succ, List.getElem?_cons_zero] at g0 g1 g2 c2
  rw [Nat.add_zero] at g0
  have zb : ∀ o, w1.frozen? ⟨b, o, none⟩ = false := fun o => by
    rcases a1.hc.2 with ⟨e, _⟩ | ⟨b', k', cur, e, _, hb, _⟩
    · cases e
    · cases e; exact frozen_of_row w1 b o cur 101 hb
  have z0 := zb (i * 3)
  have z2 := zb (i * 3 + 2)
  have hgl : s1.g ≤ 4294967295 := hg.2
  have hj := hid (join_any i s1.g)
  have H1 := hid a1
  have H2 := hid a2
  have H3 := hid a3
  have H4 := hid a4
  have H5 := hid a5
  have H6 := hid a6
  have H7 := hid a7
  have H8 := hid a8
  have HL := hid hlen'
  clear a1 a2 a3 a4 a5 a6 a7 a8 zb ht hgen' hlen' hg h2
  generalize hs1 : s1.g = sg at *
  have HS1 := hid hs1
  clear hs1
  generalize cnt A.L = c at *
  have HI := hid hi
  generalize L1.length = n at c2 hi hLl
  go_wp2_with (refine (hj.out _ (by omega) (by omega) (by omega) (by omega)).mono ?_; rintro e w' ⟨rfl, rfl⟩)
  go_ret2
  have hs1 : s1 = ⟨s1.x, sg, false⟩ := by rw [← HS1.out, ← H6.out]
  have hs := H5.out
  rw [hs1] at hs
  have k1 := H1.out.setL (n := L1.length) (s' := ⟨x, sg, false⟩) rfl hs 0 (encE x) (by omega) rfl
  have k2 := k1.setL (n := L1.length) (s := ⟨x, sg, false⟩) (s' := ⟨x, sg, true⟩) (by simp) (List.getElem?_set_self HI.out) 2 (.bool true) (by omega) rfl
  have k3 := k2.setc (c + 1)
  simp only [List.set_set] at k3
  have hfr : Fr S w (((w1.setCell ⟨b, i * 3 + 0, none⟩ (encE x)).setCell ⟨b, i * 3 + 2, none⟩ (.bool true)).setCell ⟨p, 4, none⟩ (.int .i64 ((c + 1 : Nat) : Int))) := by
    have hb : b < w.heap.size → S b := fun hlt => by
      rcases H3.out b rfl with e | e
      · exact h4 b e
      · omega
    have hw1 : Fr S w w1 := H2.out.mono (fun k e _ => by
      rcases e with rfl | e
      · exact h3
      · exact h4 k e)
    exact ((hw1.setCell _ _ hb).setCell _ _ hb).setCell _ _ (fun _ => h3)
  refine ⟨rfl, ⟨.slice (some ⟨b, 0, none⟩) L1.length k, fv1, ?_, hok'.out, .inl h3, ?_, ?_, ?_⟩, hfr⟩
  · rw [hcnt.out, H8.out]; exact k3
  · intro k hk
    rcases H3.out k hk with e | e
    · exact .inl (h4 k e)
    · exact .inr ⟨e, by have := (k3.hc.lt k hk).2; exact this⟩
  · intro k hk
    exact .inl (h5 k (H4.out k hk))
  · intro k hk
    rcases hk with hk | hk
    · exact Nat.lt_of_lt_of_le (h6 k hk) hfr.size
    · exact hk.2
theorem Put_full (S : Nat → Prop) (w : World) (p : Nat) (A : Ar) (x : Int) (h : InS S w p A) (hF : Full A) :
    Calls Try.prog 37 #[.pointer (some ⟨p, 0, none⟩), encE x] w fun e w' => e = .returned (.tuple #[.int .u64 0, .int .i64 3]) ∧ Fr (fun _ => False) w w' := by
  obtain ⟨cv, fv, h1, h2, h3, h4, h5, h6⟩ := h
  have ht := take_none w p cv fv A _ h1 h2 hF
  go_enter Try.func37, Try.ntmps37
  go_wp2_with (refine ht.mono ?_; rintro e w1 ⟨rfl, hfr⟩)
  go_ret2
  exact ⟨rfl, hfr⟩
theorem Put_nil (w : World) (x : Int) : Calls Try.prog 37 #[.pointer none, encE x] w fun e w' => e = .returned (.tuple #[.int .u64 0, .int .i64 3]) ∧ w = w' := by
  go_enter Try.func37, Try.ntmps37
  go_wp2
  go_ret2
  exact ⟨rfl, rfl⟩
theorem Get_some (S : Nat → Prop) (w : World) (p : Nat) (A : Ar) (i : Nat) (s : Spot) (hd : Int) (h : InS S w p A) (hf : Found A hd i s) :
    Calls Try.prog 38 #[.pointer (some ⟨p, 0, none⟩), .int .u64 hd] w fun e w' => e = .returned (.tuple #[encE s.x, .int .i64 0]) ∧ w = w' := by
  obtain ⟨cv, fv, h1, h2, h3, h4, h5, h6⟩ := h
  obtain ⟨f1, f2, f3⟩ := hf
  obtain ⟨b, k, rfl⟩ := h1.form f1
  have hff := find_yes w p fv A _ i b k s h1 f1 f2 (Nat.le_trans h2.len h2.m2) (h2.gen i s f1).2
  have g0 := h1.at f1 rfl 0 (by omega)
  simp only [Spot.cellsE, List.getElem?_cons_zero] at g0
  rw [Nat.add_zero] at g0
  rw [← f3] at hff
  clear f3
  go_enter Try.func38, Try.ntmps38
  go_wp2_with (refine hff.mono ?_; rintro e w1 ⟨rfl, rfl⟩)
  go_ret2
  exact ⟨rfl, rfl⟩
theorem Get_stale (S : Nat → Prop) (w : World) (p : Nat) (A : Ar) (hd : Int) (h : InS S w p A) (hs : Stale A hd) (h0 : 0 ≤ hd) (hm : hd ≤ 18446744073709551615) :
    Calls Try.prog 38 #[.pointer (some ⟨p, 0, none⟩), .int .u64 hd] w fun e w' => e = .returned (.tuple #[.pointer none, .int .i64 2]) ∧ w = w' := by
  obtain ⟨cv, fv, h1, h2, h3, h4, h5, h6⟩ := h
  have hff := find_no w p cv fv A _ hd h1 hs h2 h0 hm
  go_enter Try.func38, Try.ntmps38
  go_wp2_with (refine hff.mono ?_; rintro e w1 ⟨rfl, rfl⟩)
  go_ret2
  exact ⟨rfl, rfl⟩
theorem Get_nil (w : World) (hd : Int) (h0 : 0 ≤ hd) (hm : hd ≤ 18446744073709551615) : Calls Try.prog 38 #[.pointer none, .int .u64 hd] w fun e w' => e = .returned (.tuple #[.pointer none, .int .i64 2]) ∧ w = w' := by
  have hff := find_nil hd w h0 hm
  go_enter Try.func38, Try.ntmps38
  go_wp2_with (refine hff.mono ?_; rintro e w1 ⟨rfl, rfl⟩)
  go_ret2
  exact ⟨rfl, rfl⟩
theorem Drop_stale (S : Nat → Prop) (w : World) (p : Nat) (A : Ar) (hd : Int) (h : InS S w p A) (hs : Stale A hd) (h0 : 0 ≤ hd) (hm : hd ≤ 18446744073709551615) :
    Calls Try.prog 39 #[.pointer (some ⟨p, 0, none⟩), .int .u64 hd] w fun e w' => e = .returned (.tuple #[.pointer none, .int .i64 2]) ∧ w = w' := by
  obtain ⟨cv, fv, h1, h2, h3, h4, h5, h6⟩ := h
  have hff := find_no w p cv fv A _ hd h1 hs h2 h0 hm
  go_enter Try.func39, Try.ntmps39
  go_wp2_with (refine hff.mono ?_; rintro e w1 ⟨rfl, rfl⟩)
  go_ret2
  exact ⟨rfl, rfl⟩
theorem Drop_nil (w : World) (hd : Int) (h0 : 0 ≤ hd) (hm : hd ≤ 18446744073709551615) : Calls Try.prog 39 #[.pointer none, .int .u64 hd] w fun e w' => e = .returned (.tuple #[.pointer none, .int .i64 2]) ∧ w = w' := by
  have hff := find_nil hd w h0 hm
  go_enter Try.func39, Try.ntmps39
  go_wp2_with (refine hff.mono ?_; rintro e w1 ⟨rfl, rfl⟩)
  go_ret2
  exact ⟨rfl, rfl⟩
theorem drop_cnt {A : Ar} {i : Nat} {s : Spot} (hs : A.L[i]? = some s) (ht : s.t = true) : cnt (dropAt A i s).L + 1 = cnt A.L := by
  unfold dropAt
  have := fun g => cnt_set A.L i s ⟨0, g, false⟩ hs
  split <;> simpa [ht] using this _
theorem Drop_worn (S : Nat → Prop) (w : World) (p : Nat) (A : Ar) (i : Nat) (s : Spot) (hd : Int) (h : InS S w p A) (hf : Found A hd i s) (hw : ¬ s.g < 4294967295) :
    Calls Try.prog 39 #[.pointer (some ⟨p, 0, none⟩), .int .u64 hd] w fun e w' => e = .returned (.tuple #[encE s.x, .int .i64 0]) ∧ InS S w' p (dropAt A i s) ∧ Fr S w w' := by
  obtain ⟨cv, fv, h1, h2, h3, h4, h5, h6⟩ := h
  obtain ⟨f1, f2, f3⟩ := hf
  obtain ⟨b, k, rfl⟩ := h1.form f1
  have hg := h2.gen i s f1
  have hff := find_yes w p fv A _ i b k s h1 f1 f2 (Nat.le_trans h2.len h2.m2) hg.2
  have hlt : i < A.L.length := (List.getElem?_eq_some_iff.1 f1).1
  have hl := Nat.le_trans h2.len h2.m2
  have ho := drop_ok h2 f1 f2
  have hcn := drop_cnt f1 f2
  have hcl := cnt_le A.L
  obtain ⟨c, hc⟩ : ∃ c, cnt (dropAt A i s).L = c := ⟨_, rfl⟩
  rw [hc] at hcn
  rw [← hcn] at h1 hcl
  have k1 := h1.setL (s' := ⟨0, s.g, s.t⟩) rfl f1 0 (.pointer none) (by omega) rfl
  have k2 := k1.setL (s := ⟨0, s.g, s.t⟩) (s' := ⟨0, s.g, false⟩) (by simp) (List.getElem?_set_self hlt) 2 (.bool false) (by omega) rfl
  have k3 := k2.setc c
  simp only [List.set_set] at k3
  have hfr : Fr S w (((w.setCell ⟨b, i * 3 + 0, none⟩ (.pointer none)).setCell ⟨b, i * 3 + 2, none⟩ (.bool false)).setCell ⟨p, 4, none⟩ (.int .i64 c)) :=
    (((Fr.refl _ _).setCell _ _ (fun _ => h4 b rfl)).setCell _ _ (fun _ => h4 b rfl)).setCell _ _ (fun _ => h3)
  have g0 := h1.at f1 rfl 0 (by omega)
  have g1 := h1.at f1 rfl 1 (by omega)
  have g2 := h1.at f1 rfl 2 (by omega)
  have c4 := h1.c4
  have z4 := h1.fz 4
  simp only [Spot.cellsE, List.getElem?_cons_succ, List.getElem?_cons_zero] at g0 g1 g2
  rw [Nat.add_zero] at g0
  have z0 := h1.hc.frozenAt (i * 3)
  have z2 := h1.hc.frozenAt (i * 3 + 2)
  have hbp : b ≠ p := fun e => h1.d1 (by rw [e]; rfl)
  have hpb : p ≠ b := Ne.symm hbp
  have hdr : dropAt A i s = { A with L := A.L.set i ⟨0, s.g, false⟩ } := by unfold dropAt; rw [if_neg hw]
  have hsg : decide ((s.g : Int) < 4294967295) = false := by simp; omega
  rw [← f3] at hff
  have HK := hid k3
  have HO := hid ho
  have HC := hid hc
  have HD := hid hdr
  have HR := hid hfr
  clear f3 k1 k2 k3 ho hc hdr hfr h1 hcn f1 f2
  go_enter Try.func39, Try.ntmps39
  go_wp2_with (refine hff.mono ?_; rintro e w1 ⟨rfl, rfl⟩)
  go_ret2
  exact ⟨rfl, ⟨_, fv, by rw [HC.out, HD.out]; exact HK.out, HO.out, h3, h4, h5, fun k hk => Nat.lt_of_lt_of_le (h6 k hk) HR.out.size⟩, HR.out⟩
end Go.Proofs.Ytmampaglemleoab
