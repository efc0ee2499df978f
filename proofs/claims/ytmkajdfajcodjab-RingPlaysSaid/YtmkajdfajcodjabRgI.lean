/-
  A ring's All and Back: what they tell.
-/
import Derived.Test.YtmkajdfajcodjabRgB
import Derived.Test.YtmkajdfajcodjabMemX
import Derived.Test.YtmkajdfajcodjabKT
import Derived.Test.YtmkajdfajcodjabMixG
namespace Go.Proofs.Ytmkajdfajcodjab
open Go Go.ChangeShapes Go.WideShapes Go.ChangeAt Go.RowKit Go.Shelf
attribute [local go_sem] Oper.semAt_some

def encI (x : Int × Nat) : Array Value := #[nI x.2, iv x.1]
/-- Blocks of the iterator's own. -/
def OkT (t : Nat → Prop) (W W' : World) : Prop := Below W.heap.size W W' ∧ ∀ k, t k → W.heap.size ≤ k ∧ k < W'.heap.size
def KpT (t : Nat → Prop) (W W' : World) : Prop := KS t W W'
theorem roundIn_wide2 {n m : Nat} {P : Program} {l : Nat} {f : FuncId} {tmps : Array Value} {assign body : Code} {w : World} {R : Ending → World → Prop} (h : RoundIn Fence.wide n P l f tmps assign body w R) : RoundIn Fence.wide m P l f tmps assign body w R :=
  ⟨h.1, fun c cs _ => h.2 c cs (room_wide _)⟩
theorem round_inR {n : Nat} {P : Program} {l : Nat} {f : FuncId} {tmps : Array Value} {assign body : Code} {w : World} {R : Ending → World → Prop} (lo : Nat) (h : RoundIn Fence.wide n P l f tmps assign body w R) : RoundIn (Fence.wide.inRound lo) n P l f tmps assign body w R := h
def PartPost {α κ : Type} (J : κ → List α → World → Prop) (Jx : List α → World → Prop) (xs : List α) (e : Ending) (W' : World) : Prop := (∃ v, e = .returned v) ∧ ((∃ t, J t xs W') ∨ (∃ pre, pre <+: xs ∧ Jx pre W'))
theorem zip_take {α : Type} (l : List α) (q : Nat) (x : α) (h : l[q]? = some x) : l.zipIdx.take (q + 1) = l.zipIdx.take q ++ [(x, q)] := by
  rw [List.take_add_one, List.getElem?_zipIdx, h]
  simp
/-- A range's own row stays, over a round. -/
theorem kp_own {t : Nat → Prop} {W W' : World} {B g c n : Nat} {T : TypeId} {xs : List Value} (hk : KpT t W W') (ht : t g) (h : W.ownsRow B T 1 (.slice (some ⟨g, 0, none⟩) n c) n xs) : W'.ownsRow B T 1 (.slice (some ⟨g, 0, none⟩) n c) n xs := by
  refine ⟨h.1, ?_⟩
  rcases h.2 with ⟨e, _⟩ | ⟨g', cap, cur, e, hb, hg, rest⟩
  · cases e
  · cases e
    exact .inr ⟨g, c, cur, rfl, hb, hk _ _ _ _ ht hg, rest⟩
theorem All_any (w : World) (v : Option Addr) : Calls Try.prog 23 #[.pointer v] w fun e w' => e = .returned (.func (.func 25) #[] #[.pointer (some ⟨w.heap.size, 0, none⟩)]) ∧ w' = w.alloc (.cells #[.pointer v] 23) := by
  go_enter Try.func23, Try.ntmps23
  go_wp2
  go_ret
  exact ⟨rfl, rfl⟩
theorem Back_any (w : World) (v : Option Addr) : Calls Try.prog 24 #[.pointer v] w fun e w' => e = .returned (.func (.func 27) #[] #[.pointer (some ⟨w.heap.size, 0, none⟩)]) ∧ w' = w.alloc (.cells #[.pointer v] 23) := by
  go_enter Try.func24, Try.ntmps24
  go_wp2
  go_ret
  exact ⟨rfl, rfl⟩
set_option maxRecDepth 100000 in
set_option maxHeartbeats 4000000 in
theorem all_tells (n b : Nat) {w : World} {v : Value} {l : List Int} (hb : Boxed w b 23 v) (h : RdQ w v l) :
    TellsX Fence.wide n Try.prog 25 #[.pointer (some ⟨b, 0, none⟩)] encI OkT KpT (fun _ _ => True) l.zipIdx w := by
  intro lp J Jx W hW hJ hJx _ _ hY hOk
  show CallsIn Fence.wide n Try.prog 25 #[.func (.yield lp) #[] #[], .pointer (some ⟨b, 0, none⟩)] W (PartPost J Jx l.zipIdx)
  have d1 : W.cell? ⟨b, 0, none⟩ = some v := Boxed.cell ((hW.block b hb.lt).trans hb)
  have HROWC := hid (row_any (h.no (Fr.of_below hW)))
  have HY := hid hY
  have HJJ := hid hJ
  have HJX := hid hJx
  have HOK := hid hOk
  obtain ⟨N, hN⟩ : ∃ N, N = l.length := ⟨_, rfl⟩
  have h8 := h.ln
  rw [← hN] at h8
  have HN := hid hN
  clear hY hJ hJx hOk h hb hW hN
  refine callsIn_of_wp Try.func25 rfl trivial ?_ rfl
  simp only [Try.ntmps25, List.size_toArray, List.length_cons, List.length_nil, Nat.reduceAdd, Nat.reduceSub, Array.replicate_succ, Array.replicate_zero, List.push_toArray, List.append_toArray, List.nil_append, List.cons_append]
  gi_wp2
  refine ⟨trivial, (fun h => by cases h), (callsIn_wide.2 HROWC.out).mono ?_⟩
  rintro e W1 ⟨v1, rfl, hrow, hbl⟩
  rw [← HN.out] at hrow
  obtain ⟨ra, rc, rfl⟩ := own_form hrow
  obtain ⟨t, ht⟩ : ∃ t : Nat → Prop, t = fun k => (Value.slice ra N rc).ownBlock = some k := ⟨_, rfl⟩
  have hOk1 : OkT t W W1 := ⟨hbl, fun k hk => by rw [ht] at hk; exact hrow.lt k hk⟩
  have J0 := hid (HOK.out t W1 hOk1)
  have HT := hid ht
  have HROW := hid hrow
  clear hrow hbl ht hOk1 HROWC d1
  gi_wp2
  gi_loopw [8] (fun i wr => ∃ q : Nat, q ≤ N ∧ i = .int .i64 q ∧ RowKit.Hid (J t (l.zipIdx.take q) wr) ∧ RowKit.Hid (wr.ownsRow W.heap.size TI 1 (.slice ra N rc) N (l.map iv))) (fun i _ => N - (intOf i).toNat)
  case atStart => exact ⟨0, Nat.zero_le _, rfl, hid (by simpa using J0.out), HROW⟩
  case round =>
    obtain ⟨q, hq, rfl, HJq, HRq⟩ := hrel
    by_cases hql : q < N
    · have hqL : q < l.length := by rw [← HN.out]; exact hql
      have hs : l[q]? = some l[q] := List.getElem?_eq_getElem hqL
      generalize l[q] = x at hs
      obtain ⟨g, k', hvf, _⟩ := HRq.out.form (by omega)
      simp only [Value.slice.injEq] at hvf
      obtain ⟨rfl, -, rfl⟩ := hvf
      have m0 : wr.cell? ⟨g, q, none⟩ = some (iv x) := by rw [HRq.out.cellAt _ (by omega), List.getElem?_map, hs]; rfl
      have hz := zip_take l q x hs
      have hpx : l.zipIdx.take q ++ [(x, q)] <+: l.zipIdx := by rw [← hz]; exact List.take_prefix _ _
      obtain ⟨fn, tmps, assign, body, hy, hRd⟩ := HY.out t _ (x, q) wr HJq.out hpx
      simp only [encI] at hy
      have HRD := hid hRd
      have HZ := hid hz
      have HPX := hid hpx
      clear hRd hz hpx hs hqL
      gi_wp2
      refine ⟨(fun h => by cases h), HRD.out.mono ?_⟩
      rintro e W4 (⟨rfl, hJ4, hk4, _⟩ | ⟨rfl, hJx4, _⟩)
      · have J4 := hid hJ4
        have R4 := hid (kp_own hk4 (by rw [HT.out]; rfl) HRq.out)
        clear hJ4 hk4
        gi_wp2
        go_roundw
        case rel => exact ⟨q + 1, by omega, by go_num, by rw [HZ.out]; exact J4, R4⟩
        case measure => simp [intOf]; omega
      · have J4 := hid hJx4
        clear hJx4
        gi_wp2
        refine bodyPost_ret (results_none rfl _ _ _) rfl ?_
        exact ⟨⟨_, rfl⟩, .inr ⟨_, HPX.out, J4.out⟩⟩
    · obtain rfl : q = N := by omega
      have hall : l.zipIdx.take q = l.zipIdx := List.take_of_length_le (by rw [List.length_zipIdx, ← HN.out]; exact Nat.le_refl _)
      have HA := hid hall
      clear hall
      gi_wp2
      go_end0
      exact ⟨⟨_, rfl⟩, .inl ⟨t, by have := HJq.out; rw [HA.out] at this; exact this⟩⟩
def encS : Int × Nat → Array Value := encI
/-- From the end on. -/
def bk (l : List Int) : List (Int × Nat) := l.zipIdx.reverse
theorem bk_len (l : List Int) : (bk l).length = l.length := by unfold bk; simp
theorem bk_take {l : List Int} {k N : Nat} {x : Int} (hN : N = l.length) (hk : k < N) (hx : l[k]? = some x) : (bk l).take (N - k) = (bk l).take (N - (k + 1)) ++ [(x, k)] := by
  have e : N - k = N - (k + 1) + 1 := by omega
  have e2 : l.zipIdx.length - 1 - (N - (k + 1)) = k := by rw [List.length_zipIdx]; omega
  have hx2 : (bk l)[N - (k + 1)]? = some (x, k) := by
    unfold bk
    rw [List.getElem?_reverse (by rw [List.length_zipIdx]; omega), e2, List.getElem?_zipIdx, hx]
    simp
  rw [e, List.take_add_one, hx2]
  rfl
/-- What Backward's iterator asks of the world. -/
structure GdB (b N : Nat) (l : List Int) (a : Option Addr) (c : Nat) (W : World) : Prop where
  c0 : W.cell? ⟨b, 0, none⟩ = some (.slice a N c)
  row : W.ownsRow 0 TI 1 (.slice a N c) N (l.map iv)
set_option maxRecDepth 100000 in
set_option maxHeartbeats 4000000 in
theorem backward_tells (n b N : Nat) {w : World} {a : Option Addr} {c : Nat} {l : List Int} (hN : N = l.length) (hl : N ≤ 65536) :
    TellsX Fence.wide n Try.prog 29 #[.pointer (some ⟨b, 0, none⟩)] encI (fun (_ : Unit) W W' => W' = W) (fun _ _ _ => True) (fun _ W => GdB b N l a c W) (bk l) w := by
  intro lp J Jx W hW hJ hJx hGd hG0 hY hOk
  show CallsIn Fence.wide n Try.prog 29 #[.func (.yield lp) #[] #[], .pointer (some ⟨b, 0, none⟩)] W (PartPost J Jx (bk l))
  have d1 := hG0.c0
  have HY := hid hY
  have HG := hid hGd
  have J0 := hid (hOk () W rfl)
  have HN := hid hN
  have hw1 := IntWalk.i64_in ((N : Int) - 1) (by omega)
  clear hY hJ hJx hOk hW hGd hG0 hN
  refine callsIn_of_wp Try.func29 rfl trivial ?_ rfl
  simp only [Try.ntmps29, List.size_toArray, List.length_cons, List.length_nil, Nat.reduceAdd, Nat.reduceSub, Array.replicate_succ, Array.replicate_zero, List.push_toArray, List.append_toArray, List.nil_append, List.cons_append]
  gi_wp2
  gi_loopw [3] (fun i wr => ∃ (k : Nat) (z : Int), k ≤ N ∧ i = .int .i64 z ∧ z = (k : Int) - 1 ∧ RowKit.Hid (J () ((bk l).take (N - k)) wr)) (fun i _ => (intOf i + 1).toNat)
  case atStart => exact ⟨N, _, Nat.le_refl _, rfl, rfl, hid (by simpa using J0.out)⟩
  case round =>
    obtain ⟨k, z, hk, rfl, hz, HJq⟩ := hrel
    by_cases hk0 : k = 0
    · subst hk0
      obtain rfl : z = -1 := by omega
      have hall : (bk l).take (N - 0) = bk l := List.take_of_length_le (by rw [bk_len]; have := HN.out; omega)
      have HA := hid hall
      clear hall hz
      gi_wp2
      go_end0
      exact ⟨⟨_, rfl⟩, .inl ⟨(), by have := HJq.out; rw [HA.out] at this; exact this⟩⟩
    · obtain ⟨j, rfl⟩ : ∃ j, k = j + 1 := ⟨k - 1, by omega⟩
      obtain rfl : z = (j : Int) := by omega
      have hjl : j < l.length := by rw [← HN.out]; omega
      have hs : l[j]? = some l[j] := List.getElem?_eq_getElem hjl
      generalize l[j] = x at hs
      have hg := HG.out () _ _ HJq.out
      have d2 := hg.c0
      obtain ⟨g, k', hvf, _⟩ := hg.row.form (by omega)
      simp only [Value.slice.injEq] at hvf
      obtain ⟨rfl, -, rfl⟩ := hvf
      have m0 : wr.cell? ⟨g, j, none⟩ = some (iv x) := by rw [hg.row.cellAt _ (by omega), List.getElem?_map, hs]; rfl
      have hzz := bk_take (HN.out) (k := j) (by omega) hs
      have hpx : (bk l).take (N - (j + 1)) ++ [(x, j)] <+: bk l := by rw [← hzz]; exact List.take_prefix _ _
      obtain ⟨fn, tmps, assign, body, hy, hRd⟩ := HY.out () _ (x, j) wr HJq.out hpx
      simp only [encI] at hy
      have HRD := hid hRd
      have HZ := hid hzz
      have HPX := hid hpx
      have hjN : j < N := by omega
      have hw3 := IntWalk.i64_in ((j : Int) - 1) (by omega)
      clear hRd hzz hpx hs hjl hg hz hk0 hk hw1
      gi_wp2
      refine ⟨(fun h => by cases h), HRD.out.mono ?_⟩
      rintro e W4 (⟨rfl, hJ4, _, _⟩ | ⟨rfl, hJx4, _⟩)
      · have J4 := hid hJ4
        clear hJ4
        gi_wp2
        go_roundw
        case rel => exact ⟨j, _, by omega, rfl, rfl, by rw [HZ.out]; exact J4⟩
        case measure => simp [intOf]
      · have J4 := hid hJx4
        clear hJx4
        gi_wp2
        refine bodyPost_ret (results_none rfl _ _ _) rfl ?_
        exact ⟨⟨_, rfl⟩, .inr ⟨_, HPX.out, J4.out⟩⟩
end Go.Proofs.Ytmkajdfajcodjab
