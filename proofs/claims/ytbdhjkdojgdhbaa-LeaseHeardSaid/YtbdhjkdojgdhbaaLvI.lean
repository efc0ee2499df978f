/-
  Leases: All, and what it tells.
-/
import Derived.Test.YtbdhjkdojgdhbaaLvH
namespace Go.Proofs.Ytbdhjkdojgdhbaa
open Go Go.ChangeShapes Go.WideShapes Go.ChangeAt Go.RowKit Go.Maps Go.Shelf
attribute [local go_sem] Oper.semAt_some

abbrev TPz : TypeId := 23
def PartPostO {κ : Type} (J : κ → List On → World → Prop) (Jx : List On → World → Prop) (xs : List On) (e : Ending) (W' : World) : Prop := (∃ v, e = .returned v) ∧ ((∃ t, J t xs W') ∨ (∃ pre, pre <+: xs ∧ Jx pre W'))
theorem All_any (w : World) (v : Option Addr) : Calls Try.prog 28 #[.pointer v] w fun e w' => e = .returned (.func (.func 31) #[] #[.pointer (some ⟨w.heap.size, 0, none⟩)]) ∧ w' = w.alloc (.cells #[.pointer v] TPz) := by
  go_enter Try.func28, Try.ntmps28
  go_wp2
  go_ret
  exact ⟨rfl, rfl⟩
/-- A range's own row stays, over a round. -/
theorem kp_ownO {t : Nat → Prop} {W W' : World} {B g c n : Nat} {T : TypeId} {k : Nat} {xs : List Value} (hk : KpT t W W') (ht : t g) (h : W.ownsRow B T k (.slice (some ⟨g, 0, none⟩) n c) n xs) : W'.ownsRow B T k (.slice (some ⟨g, 0, none⟩) n c) n xs := by
  refine ⟨h.1, ?_⟩
  rcases h.2 with ⟨e, _⟩ | ⟨g', cap, cur, e, hb, hg, rest⟩
  · cases e
  · cases e
    exact .inr ⟨g, c, cur, rfl, hb, hk _ _ _ _ ht hg, rest⟩
theorem all_nil (n b : Nat) {w : World} (hb : Boxed w b TPz (.pointer none)) :
    TellsX Fence.wide n Try.prog 31 #[.pointer (some ⟨b, 0, none⟩)] encO OkT KpT (fun _ _ => True) [] w := by
  intro lp J Jx W hW hJ hJx _ _ hY hOk
  show CallsIn Fence.wide n Try.prog 31 #[.func (.yield lp) #[] #[], .pointer (some ⟨b, 0, none⟩)] W (PartPostO J Jx [])
  have d1 : W.cell? ⟨b, 0, none⟩ = some (.pointer none) := Boxed.cell ((hW.block b hb.lt).trans hb)
  have J0 := hid (hOk (fun _ => False) W ⟨Below.refl _ _, fun _ h => h.elim⟩)
  have HM := hid (made_nil W)
  clear hY hJ hJx hOk hb hW
  refine callsIn_of_wp Try.func31 rfl trivial ?_ rfl
  simp only [Try.ntmps31, List.size_toArray, List.length_cons, List.length_nil, Nat.reduceAdd, Nat.reduceSub, Array.replicate_succ, Array.replicate_zero, List.push_toArray, List.append_toArray, List.nil_append, List.cons_append]
  gi_wp2
  first
    | refine ⟨trivial, (fun h => by cases h), (callsIn_wide.2 HM.out).mono ?_⟩
    | refine ⟨trivial, (callsIn_wide.2 HM.out).mono ?_⟩
    | refine (callsIn_wide.2 HM.out).mono ?_
  rintro e W1 ⟨rfl, rfl⟩
  gi_wp2
  refine bodyPost_ret (results_none rfl _ _ _) rfl ?_
  exact ⟨⟨_, rfl⟩, .inl ⟨_, J0.out⟩⟩
set_option maxRecDepth 100000 in
set_option maxHeartbeats 4000000 in
theorem all_tells (n b : Nat) {w : World} {p bm nn : Nat} {z : Lz} (hb : Boxed w b TPz (.pointer (some ⟨p, 0, none⟩))) (h : LeI w p bm nn z) (hr : Rise z.l) (ht : z.time ≤ 1000000) (hl : z.l.length ≤ 100000) :
    TellsX Fence.wide n Try.prog 31 #[.pointer (some ⟨b, 0, none⟩)] encO OkT KpT (fun _ _ => True) z.l w := by
  intro lp J Jx W hW hJ hJx _ _ hY hOk
  show CallsIn Fence.wide n Try.prog 31 #[.func (.yield lp) #[] #[], .pointer (some ⟨b, 0, none⟩)] W (PartPostO J Jx z.l)
  have d1 : W.cell? ⟨b, 0, none⟩ = some (.pointer (some ⟨p, 0, none⟩)) := Boxed.cell ((hW.block b hb.lt).trans hb)
  have hi : LeI W p bm nn z := h.no (Fr.of_below hW)
  have HM := hid (made_any hi ht)
  have HROWC := hid ((callsIn_wide (n := 3)).1 (rising_in 3 (by omega) W p bm nn z hi hr hl))
  obtain ⟨L, hL⟩ : ∃ L, L = z.l := ⟨_, rfl⟩
  rw [← hL] at hY HROWC hl ⊢
  have HY := hid hY
  have HJJ := hid hJ
  have HJX := hid hJx
  have HOK := hid hOk
  obtain ⟨N, hN⟩ : ∃ N, N = L.length := ⟨_, rfl⟩
  rw [← hN] at hl
  have HN := hid hN
  clear hY hJ hJx hOk h hb hW hN hi hr ht hL
  refine callsIn_of_wp Try.func31 rfl trivial ?_ rfl
  simp only [Try.ntmps31, List.size_toArray, List.length_cons, List.length_nil, Nat.reduceAdd, Nat.reduceSub, Array.replicate_succ, Array.replicate_zero, List.push_toArray, List.append_toArray, List.nil_append, List.cons_append]
  gi_wp2
  first
    | refine ⟨trivial, (fun h => by cases h), (callsIn_wide.2 HM.out).mono ?_⟩
    | refine ⟨trivial, (callsIn_wide.2 HM.out).mono ?_⟩
    | refine (callsIn_wide.2 HM.out).mono ?_
  rintro e W1 ⟨rfl, rfl⟩
  gi_wp2
  refine ⟨trivial, (fun h => by cases h), (callsIn_wide.2 HROWC.out).mono ?_⟩
  rintro e W1 ⟨v1, rfl, hrow, hbl⟩
  rw [← HN.out] at hrow
  obtain ⟨ra, rc, rfl⟩ := own_form hrow
  obtain ⟨t, ht⟩ : ∃ t : Nat → Prop, t = fun k => (Value.slice ra N rc).ownBlock = some k := ⟨_, rfl⟩
  have hOk1 : OkT t W W1 := ⟨hbl, fun k hk => by rw [ht] at hk; exact hrow.lt k hk⟩
  have J0 := hid (HOK.out t W1 hOk1)
  have HT := hid ht
  have HROW := hid hrow
  clear hrow hbl ht hOk1 HROWC d1 HM
  gi_wp2
  gi_loopw [11] (fun i wr => ∃ q : Nat, q ≤ N ∧ i = .int .i64 q ∧ RowKit.Hid (J t (L.take q) wr) ∧ RowKit.Hid (wr.ownsRow W.heap.size TEn 2 (.slice ra N rc) N (onv L))) (fun i _ => N - (intOf i).toNat)
  case atStart => exact ⟨0, Nat.zero_le _, rfl, hid (by simpa using J0.out), HROW⟩
  case round =>
    obtain ⟨q, hq, rfl, HJq, HRq⟩ := hrel
    by_cases hql : q < N
    · have hqL : q < L.length := by rw [← HN.out]; exact hql
      have hs : L[q]? = some L[q] := List.getElem?_eq_getElem hqL
      generalize L[q] = x at hs
      obtain ⟨g, k', hvf, _⟩ := HRq.out.form (by omega)
      simp only [Value.slice.injEq] at hvf
      obtain ⟨rfl, -, rfl⟩ := hvf
      have g0 : wr.cell? ⟨g, q * 2, none⟩ = some (.int .u64 x.1) := by
        rw [HRq.out.cellAt (q * 2) (by omega)]; exact onv_get (j := 0) (by omega) hs
      have g1 : wr.cell? ⟨g, q * 2 + 1, none⟩ = some (.int .i64 x.2) := by
        rw [HRq.out.cellAt (q * 2 + 1) (by omega)]; exact onv_get (j := 1) (by omega) hs
      have hz : L.take (q + 1) = L.take q ++ [x] := by rw [List.take_add_one, hs]; rfl
      have hpx : L.take q ++ [x] <+: L := by rw [← hz]; exact List.take_prefix _ _
      obtain ⟨x1, x2⟩ := x
      simp only at g0 g1
      have J2 := HJJ.out t _ _ _ none HJq.out (World.grownBy_alloc wr (.cells #[.int .u64 x1, .int .i64 x2] TEn) none) (fun r e => by cases e)
      have R2 := hid (HRq.out.alloc (.cells #[.int .u64 x1, .int .i64 x2] TEn))
      obtain ⟨fn, tmps, assign, body, hy, hRd⟩ := HY.out t _ _ _ J2 hpx
      simp only [encO] at hy
      have HRD := hid hRd
      have HZ := hid hz
      have HPX := hid hpx
      clear hRd hz hpx hs hqL J2
      gi_wp2
      refine ⟨(fun h => by cases h), HRD.out.mono ?_⟩
      rintro e W4 (⟨rfl, hJ4, hk4, _⟩ | ⟨rfl, hJx4, _⟩)
      · have J4 := hid hJ4
        have R4 := hid (kp_ownO hk4 (by rw [HT.out]; rfl) R2.out)
        clear hJ4 hk4
        gi_wp2
        go_roundw
        case rel => exact ⟨q + 1, by omega, by go_num, by rw [HZ.out]; exact J4, R4⟩
        case measure => simp [intOf]; omega
      · have J4 := hid hJx4
        clear hJx4
        gi_wp2
        refine bodyPost_ret (results_none rfl _ _ _) rfl ?_
        exact ⟨⟨_, rfl⟩, .inr ⟨_, HPX.out, J4.out⟩⟩
    · obtain rfl : q = N := by omega
      have hall : L.take q = L := List.take_of_length_le (by rw [← HN.out]; exact Nat.le_refl _)
      have HA := hid hall
      clear hall
      gi_wp2
      go_end0
      exact ⟨⟨_, rfl⟩, .inl ⟨t, by have := HJq.out; rw [HA.out] at this; exact this⟩⟩
end Go.Proofs.Ytbdhjkdojgdhbaa
