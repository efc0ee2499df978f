/-
  A tally in memory, and the contracts of New, set, Up, Down, Of, Sum.
-/
import Derived.Test.YtmmmjkmhlkkdkaaChecked
import Derived.Test.YtmmmjkmhlkkdkaaLib
import Derived.Test.YtmmmjkmhlkkdkaaFr
import Derived.Test.YtmmmjkmhlkkdkaaTlM
import Derived.Maps.OwnOps
import Derived.Maps.OwnSet
import Derived.Maps.RangeWalk
namespace Go.Proofs.Ytmmmjkmhlkkdkaa
open Go.ChangeShapes Go.WideShapes Go.ChangeAt Go.RowKit Go.Maps

theorem law31 : Keyed Try.prog 31 := int_keyed Try.underlying31
theorem zero22 (w : World) : (zeroValue 22).run Try.prog w = .ok (.int .u32 0) w := by kernel_rfl
theorem wf_u64 {k : Int} (h0 : 0 ≤ k) (h1 : k ≤ 18446744073709551615) : (Lit.int .u64 k).wf = true := WalkArith.wf_u64 ⟨h0, h1⟩
theorem wf_u32 {k : Int} (h0 : 0 ≤ k) (h1 : k ≤ 4294967295) : (Lit.int .u32 k).wf = true := WalkArith.wf_u32 ⟨h0, h1⟩

/-- A tally in memory. -/
structure TlW (w : World) (p b n : Nat) (most : Int) (l : TM) : Prop where
  hp : w.heap[p]? = some (.cells #[.int .u32 most, .map (some b)] 56 (0, 0))
  hm : w.ownsMap Try.prog 31 (plainElem (H := Unit) Try.prog 22) b n (dat l)
  ne : b ≠ p
  m0 : 0 ≤ most
  m1 : most ≤ 4294967295
  good : Good most l
section
variable {w : World} {p b n : Nat} {most : Int} {l : TM}
theorem TlW.c0 (h : TlW w p b n most l) : w.cell? ⟨p, 0, none⟩ = some (.int .u32 most) := by rw [cell_of_row w p 0 _ 56 _ h.hp]; rfl
theorem TlW.c1 (h : TlW w p b n most l) : w.cell? ⟨p, 1, none⟩ = some (.map (some b)) := by rw [cell_of_row w p 1 _ 56 _ h.hp]; rfl
theorem TlW.lt (h : TlW w p b n most l) : p < w.heap.size := lt_of_heap h.hp
theorem TlW.ltb (h : TlW w p b n most l) : b < w.heap.size := h.hm.lt
theorem TlW.fr {w' : World} {fp : Nat → Prop} (h : TlW w p b n most l) (hf : Fr fp w w') (hp : ¬ fp p) (hb : ¬ fp b) : TlW w' p b n most l := by
  refine ⟨by rw [hf.block p h.lt hp]; exact h.hp, ?_, h.ne, h.m0, h.m1, h.good⟩
  have hlt := h.ltb
  obtain ⟨es, clock, hbb, rest⟩ := h.hm
  exact ⟨es, clock, (hf.block b hlt hb).trans hbb, rest⟩
theorem TlW.mono (h : TlW w p b n most l) {n' : Nat} (hn : n ≤ n') : TlW w p b n' most l := ⟨h.hp, h.hm.mono hn, h.ne, h.m0, h.m1, h.good⟩
theorem TlW.length (h : TlW w p b n most l) : l.length ≤ n := by
  have := h.hm.size_le
  simpa [dat, Maps.size] using this
end
theorem fr_turned {w w' : World} {b : Nat} (h : w.mapTurned w' b) : Fr (fun j => j = b) w w' :=
  (Fr.refl _ w).grown h.grown (fun _ hk _ => (Option.some.inj hk).symm)
theorem TlW.turned {w w' : World} {p b n n' : Nat} {most : Int} {l l' : TM} (h : TlW w p b n most l) (ht : w.mapTurned w' b) (hm : w'.ownsMap Try.prog 31 (plainElem (H := Unit) Try.prog 22) b n' (dat l')) (hg : Good most l') : TlW w' p b n' most l' :=
  ⟨by rw [(fr_turned ht).block p h.lt (fun e => h.ne e.symm)]; exact h.hp, hm, h.ne, h.m0, h.m1, hg⟩

theorem New_any (m : Int) (w : World) : Calls Try.prog 8 #[.int .u32 m] w fun e w' => e = .returned (.pointer (some ⟨w.heap.size + 1, 0, none⟩)) ∧ w' = (w.alloc (.map #[] 0)).alloc (.cells #[.int .u32 m, .map (some w.heap.size)] 56) := by
  have hmm := @run_makeMap Try.prog
  go_enter Try.func8, Try.ntmps8
  go_wp2
  go_ret
  exact ⟨rfl, rfl⟩
theorem New_tl (m : Int) (w : World) (h0 : 0 ≤ m) (h1 : m ≤ 4294967295) : Calls Try.prog 8 #[.int .u32 m] w fun e w' => e = .returned (.pointer (some ⟨w.heap.size + 1, 0, none⟩)) ∧ TlW w' (w.heap.size + 1) w.heap.size 0 m [] ∧ Below w.heap.size w w' := by
  refine (New_any m w).mono ?_
  rintro e w' ⟨rfl, rfl⟩
  refine ⟨rfl, ⟨by have := heap_alloc_new (w.alloc (.map #[] 0)) (.cells #[.int .u32 m, .map (some w.heap.size)] 56); simpa using this, (World.ownsMap_made w _ _ _).alloc _, by omega, h0, h1, Good.nil m⟩, ((Below.refl _ _).alloc (Nat.le_refl _) _).alloc (by simp) _⟩

theorem set_any (w : World) (p b n : Nat) (most k c : Int) (l : TM) (h : TlW w p b n most l) (hn : n < 9223372036854775807) (hk0 : 0 ≤ k) (hk1 : k ≤ 18446744073709551615) (hc0 : 0 ≤ c) (hc1 : c ≤ most) :
    Calls Try.prog 25 #[.pointer (some ⟨p, 0, none⟩), .int .u64 k, .int .u32 c] w fun e w' => e = .returned (.int .u32 c) ∧ TlW w' p b (n + 1) most (setM l k c) ∧ Fr (fun j => j = b) w w' := by
  have c1 := h.c1
  have hm := h.hm
  have hkey := keyOf_int_mk (P := Try.prog) Try.underlying31 (wf_u64 hk0 hk1)
  have hm1 := h.m1
  have HG := hid (h.good.set (c := c) ⟨hk0, hk1⟩ hc0 hc1)
  have H := hid h
  have HM := hid hm
  have HK := hid hkey
  clear h hm hkey
  by_cases hc : c = 0
  · subst hc
    go_enter Try.func25, Try.ntmps25
    go_wp2_with (at_delete; refine wpList_delete_own _ rfl _ _ 54 31 rfl 22 law31 Try.underlying54 _ b n _ rfl HM.out _ _ rfl HK.out ?_; intro w1 hown1 hturn1)
    go_ret
    have e : setM l k 0 = cut l k := by unfold setM; rw [if_pos rfl]
    rw [dat_cut, ← e] at hown1
    exact ⟨rfl, H.out.turned hturn1 (hown1.mono (by omega)) HG.out, fr_turned hturn1⟩
  · have hc2 : (c == 0) = false := by simpa using hc
    have HE := hid (plainElem_int (H := Unit) (P := Try.prog) Try.underlying22 (wf_u32 hc0 (by omega : c ≤ 4294967295)))
    go_enter Try.func25, Try.ntmps25
    go_wp2_with (at_mapUpdate; refine wpList_mapUpdate_in _ rfl _ _ _ 54 rfl 31 22 law31 Try.underlying54 _ b n _ rfl HM.out (by unfold maxLen; omega) _ _ _ rfl rfl HK.out _ _ HE.out ?_; intro w1 hown1 hturn1)
    go_ret
    have e : setM l k c = putM l k c := by unfold setM; rw [if_neg hc]
    rw [dat_put, ← e] at hown1
    exact ⟨rfl, H.out.turned hturn1 hown1 HG.out, fr_turned hturn1⟩

theorem Of_any (w : World) (p b n : Nat) (most k : Int) (l : TM) (h : TlW w p b n most l) (hk0 : 0 ≤ k) (hk1 : k ≤ 18446744073709551615) :
    Calls Try.prog 15 #[.pointer (some ⟨p, 0, none⟩), .int .u64 k] w fun e w' => e = .returned (.int .u32 (getM l k)) ∧ w = w' := by
  have c1 := h.c1
  have HM := hid h.hm
  have HK := hid (keyOf_int_mk (P := Try.prog) Try.underlying31 (wf_u64 hk0 hk1))
  clear h
  go_enter Try.func15, Try.ntmps15
  go_wp2_with (at_lookup; refine wpList_lookup_own_int _ rfl _ _ 54 rfl 31 22 .u32 law31 Try.underlying54 Try.underlying22 (zero22 _) b n _ rfl HM.out _ _ rfl HK.out ?_; intro c hat hwc)
  go_ret
  rw [dat_get] at hat
  simp only [DataW.lit.injEq, Lit.int.injEq, true_and] at hat
  exact ⟨by rw [hat]; rfl, rfl⟩
theorem Of_nil (w : World) (k : Int) : Calls Try.prog 15 #[.pointer none, .int .u64 k] w fun e w' => e = .returned (.int .u32 0) ∧ w = w' := by
  go_enter Try.func15, Try.ntmps15
  go_wp2
  go_ret
  exact ⟨rfl, rfl⟩

/-- Up: there is room. -/
theorem Up_yes (w : World) (p b n : Nat) (most k x : Int) (l : TM) (h : TlW w p b n most l) (hn : n < 9223372036854775807) (hk0 : 0 ≤ k) (hk1 : k ≤ 18446744073709551615) (hx0 : 0 ≤ x) (hx : getM l k + x ≤ most) :
    Calls Try.prog 18 #[.pointer (some ⟨p, 0, none⟩), .int .u64 k, .int .u32 x] w fun e w' => e = .returned (.tuple #[.int .u32 (getM l k + x), .int .i64 0]) ∧ TlW w' p b (n + 1) most (setM l k (getM l k + x)) ∧ Fr (fun j => j = b) w w' := by
  have c0 := h.c0
  have c1 := h.c1
  have HM := hid h.hm
  have HK := hid (keyOf_int_mk (P := Try.prog) Try.underlying31 (wf_u64 hk0 hk1))
  have g0 := h.good.get0 k
  have m1 := h.m1
  have hS := hid (set_any w p b n most k (getM l k + x) l h hn hk0 hk1 (by omega) hx)
  obtain ⟨g, hg⟩ : ∃ g, g = getM l k := ⟨_, rfl⟩
  rw [← hg] at hS hx g0 ⊢
  have HGG := hid hg
  have ht : decide (most - g < x) = false := by simp; omega
  have ha : IntKind.u32.wrap (g + x) = g + x := IntWalk.u32_in _ (by omega)
  have hb : IntKind.u32.wrap (most - g) = most - g := IntWalk.u32_in _ (by omega)
  have HA := hid ha
  have HB := hid hb
  have HT := hid ht
  clear h hg ha hb ht
  go_enter Try.func18, Try.ntmps18
  go_wp2_with (at_lookup; refine wpList_lookup_own_int _ rfl _ _ 54 rfl 31 22 .u32 law31 Try.underlying54 Try.underlying22 (zero22 _) b n _ rfl HM.out _ _ rfl HK.out ?_; intro c hat hwc; rw [dat_get, ← HGG.out] at hat; simp only [DataW.lit.injEq, Lit.int.injEq, true_and] at hat; subst hat; clear hwc; have ha := HA.out; have hb := HB.out; have ht := HT.out)
  clear ha hb ht
  refine hS.out.mono ?_
  rintro e w' ⟨rfl, h1, h2⟩
  have H1 := hid h1
  have H2 := hid h2
  clear h1 h2
  go_wp2
  go_ret2
  exact ⟨rfl, H1.out, H2.out⟩

/-- Up: it would be too much. -/
theorem Up_no (w : World) (p b n : Nat) (most k x : Int) (l : TM) (h : TlW w p b n most l) (hk0 : 0 ≤ k) (hk1 : k ≤ 18446744073709551615) (hx1 : x ≤ 4294967295) (hx : most < getM l k + x) :
    Calls Try.prog 18 #[.pointer (some ⟨p, 0, none⟩), .int .u64 k, .int .u32 x] w fun e w' => e = .returned (.tuple #[.int .u32 (getM l k), .int .i64 4]) ∧ w = w' := by
  have c0 := h.c0
  have c1 := h.c1
  have HM := hid h.hm
  have HK := hid (keyOf_int_mk (P := Try.prog) Try.underlying31 (wf_u64 hk0 hk1))
  have g0 := h.good.get0 k
  have g1 := h.good.get1 h.m0 k
  have m1 := h.m1
  obtain ⟨g, hg⟩ : ∃ g, g = getM l k := ⟨_, rfl⟩
  rw [← hg] at hx g0 g1 ⊢
  have HGG := hid hg
  have ht : decide (most - g < x) = true := by simp; omega
  have hb : IntKind.u32.wrap (most - g) = most - g := IntWalk.u32_in _ (by omega)
  have HB := hid hb
  have HT := hid ht
  clear h hg hb ht
  go_enter Try.func18, Try.ntmps18
  go_wp2_with (at_lookup; refine wpList_lookup_own_int _ rfl _ _ 54 rfl 31 22 .u32 law31 Try.underlying54 Try.underlying22 (zero22 _) b n _ rfl HM.out _ _ rfl HK.out ?_; intro c hat hwc; rw [dat_get, ← HGG.out] at hat; simp only [DataW.lit.injEq, Lit.int.injEq, true_and] at hat; subst hat; clear hwc; have hb := HB.out; have ht := HT.out)
  go_ret2
  exact ⟨rfl, rfl⟩
theorem Up_nil (w : World) (k x : Int) : Calls Try.prog 18 #[.pointer none, .int .u64 k, .int .u32 x] w fun e w' => e = .returned (.tuple #[.int .u32 0, .int .i64 4]) ∧ w = w' := by
  go_enter Try.func18, Try.ntmps18
  go_wp2
  go_ret2
  exact ⟨rfl, rfl⟩
theorem Down_nil (w : World) (k x : Int) : Calls Try.prog 17 #[.pointer none, .int .u64 k, .int .u32 x] w fun e w' => e = .returned (.tuple #[.int .u32 0, .int .i64 4]) ∧ w = w' := by
  go_enter Try.func17, Try.ntmps17
  go_wp2
  go_ret2
  exact ⟨rfl, rfl⟩
/-- Down: there are as many. -/
theorem Down_yes (w : World) (p b n : Nat) (most k x : Int) (l : TM) (h : TlW w p b n most l) (hn : n < 9223372036854775807) (hk0 : 0 ≤ k) (hk1 : k ≤ 18446744073709551615) (hx0 : 0 ≤ x) (hx : x ≤ getM l k) :
    Calls Try.prog 17 #[.pointer (some ⟨p, 0, none⟩), .int .u64 k, .int .u32 x] w fun e w' => e = .returned (.tuple #[.int .u32 (getM l k - x), .int .i64 0]) ∧ TlW w' p b (n + 1) most (setM l k (getM l k - x)) ∧ Fr (fun j => j = b) w w' := by
  have c1 := h.c1
  have HM := hid h.hm
  have HK := hid (keyOf_int_mk (P := Try.prog) Try.underlying31 (wf_u64 hk0 hk1))
  have g1 := h.good.get1 h.m0 k
  have m1 := h.m1
  have hS := hid (set_any w p b n most k (getM l k - x) l h hn hk0 hk1 (by omega) (by omega))
  obtain ⟨g, hg⟩ : ∃ g, g = getM l k := ⟨_, rfl⟩
  rw [← hg] at hS hx g1 ⊢
  have HGG := hid hg
  have ht : decide (g < x) = false := by simp; omega
  have ha : IntKind.u32.wrap (g - x) = g - x := IntWalk.u32_in _ (by omega)
  have HA := hid ha
  have HT := hid ht
  clear h hg ha ht
  go_enter Try.func17, Try.ntmps17
  go_wp2_with (at_lookup; refine wpList_lookup_own_int _ rfl _ _ 54 rfl 31 22 .u32 law31 Try.underlying54 Try.underlying22 (zero22 _) b n _ rfl HM.out _ _ rfl HK.out ?_; intro c hat hwc; rw [dat_get, ← HGG.out] at hat; simp only [DataW.lit.injEq, Lit.int.injEq, true_and] at hat; subst hat; clear hwc; have ha := HA.out; have ht := HT.out)
  clear ha ht
  refine hS.out.mono ?_
  rintro e w' ⟨rfl, h1, h2⟩
  have H1 := hid h1
  have H2 := hid h2
  clear h1 h2
  go_wp2
  go_ret2
  exact ⟨rfl, H1.out, H2.out⟩
theorem Down_no (w : World) (p b n : Nat) (most k x : Int) (l : TM) (h : TlW w p b n most l) (hk0 : 0 ≤ k) (hk1 : k ≤ 18446744073709551615) (hx : getM l k < x) :
    Calls Try.prog 17 #[.pointer (some ⟨p, 0, none⟩), .int .u64 k, .int .u32 x] w fun e w' => e = .returned (.tuple #[.int .u32 (getM l k), .int .i64 4]) ∧ w = w' := by
  have c1 := h.c1
  have HM := hid h.hm
  have HK := hid (keyOf_int_mk (P := Try.prog) Try.underlying31 (wf_u64 hk0 hk1))
  obtain ⟨g, hg⟩ : ∃ g, g = getM l k := ⟨_, rfl⟩
  rw [← hg] at hx ⊢
  have HGG := hid hg
  have ht : decide (g < x) = true := by simp; omega
  have HT := hid ht
  clear h hg ht
  go_enter Try.func17, Try.ntmps17
  go_wp2_with (at_lookup; refine wpList_lookup_own_int _ rfl _ _ 54 rfl 31 22 .u32 law31 Try.underlying54 Try.underlying22 (zero22 _) b n _ rfl HM.out _ _ rfl HK.out ?_; intro c hat hwc; rw [dat_get, ← HGG.out] at hat; simp only [DataW.lit.injEq, Lit.int.injEq, true_and] at hat; subst hat; clear hwc; have ht := HT.out)
  go_ret2
  exact ⟨rfl, rfl⟩
theorem Sum_nil (w : World) : Calls Try.prog 16 #[.pointer none] w fun e w' => e = .returned (.int .u64 0) ∧ w = w' := by
  go_enter Try.func16, Try.ntmps16
  go_wp2
  go_ret
  exact ⟨rfl, rfl⟩
def SumRel (w0 : World) (b n : Nat) (l : TM) (s : Value) (wr : World) : Prop :=
  ∃ left cnt, wr.ranges Try.prog 31 (plainElem (H := Unit) Try.prog 22) b w0.heap.size n (dat l) left cnt ∧ s = .int .u64 (sumL left l) ∧ Fr (fun _ => False) w0 wr
theorem Sum_any (w : World) (p b n : Nat) (most : Int) (l : TM) (h : TlW w p b n most l) (hn : n ≤ 1000000) :
    Calls Try.prog 16 #[.pointer (some ⟨p, 0, none⟩)] w fun e w' => e = .returned (.int .u64 (sumM l)) ∧ Fr (fun _ => False) w w' := by
  have c1 := h.c1
  have HM := hid h.hm
  have hlen := h.length
  have m1 := h.m1
  have hb4 : ∀ q ∈ l, 0 ≤ q.2 ∧ q.2 ≤ 4294967295 := fun q hq => by have := h.good.pos q hq; have := h.good.le q hq; omega
  have HB := hid hb4
  have HR := hid h.good.rise
  clear h hb4
  go_enter Try.func16, Try.ntmps16
  go_wp2_with (at_range; refine wpList_range_own _ rfl _ 54 rfl 31 22 law31 Try.underlying54 _ b n _ rfl HM.out ?_; intro w0 hrg0 hg0 hs0)
  go_frame
  go_loopw [3] (fun s wr => SumRel w b n l s wr) (fun _ wr => wr.rangeLeft b w.heap.size)
  case atStart => exact ⟨_, _, hrg0, by rw [sumL_start], (Fr.refl _ _).grown hg0 (fun _ h _ => by cases h)⟩
  case round =>
    obtain ⟨left, cnt, hrg, rfl, hfr⟩ := hrel
    have hs1 := sumL_bound (left := left) HB.out
    have HF := hid hfr
    have HRG := hid hrg
    clear hrg0 hg0 hs0 hfr hrg
    go_wp2_with (at_next; refine wpList_next_ranges_ii _ rfl _ rfl 31 22 .u64 .u32 law31 Try.underlying31 Try.underlying22 b w.heap.size n _ _ _ rfl HRG.out ?_ ?_)
    · intro hc0 hl0
      go_wp2
      go_ret
      exact ⟨by rw [sumL_end l hl0]; rfl, HF.out⟩
    · intro x c w1 cnt1 hwx hwc hlx hat hrg1 hlt hg1 hs1' hen
      have hmem := mem_of_at hat
      have hstep := sumL_step hlx HR.out hmem
      have hs2 := sumL_bound (left := fun z => left z && !z.sameKey (.int .u64 x)) HB.out
      rw [hstep] at hs2
      have ha : IntKind.u64.wrap (sumL left l + c) = sumL left l + c := IntWalk.u64_in _ (by omega)
      have H1 := hid hrg1
      have H2 := hid hg1
      have H3 := hid hstep
      have hc01 := bounds_u32 hwc
      clear hrg1 hg1 hstep hat hmem hlx hs1' hwx hwc
      go_wp2
      go_roundw
      case rel =>
        exact ⟨_, _, H1.out, by rw [H3.out], HF.out.grown H2.out (fun k hk hlt => by cases hk; omega)⟩
      case measure => rw [H1.out.left_eq, HRG.out.left_eq]; exact hlt
end Go.Proofs.Ytmmmjkmhlkkdkaa
