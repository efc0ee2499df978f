/- RaA RaB in one -/
import Derived.Test.YtmkajdfajcodjaaAeD
namespace Go.Proofs.Ytmkajdfajcodjaa
open Go Go.ChangeShapes Go.WideShapes Go.ChangeAt Go.RowKit

/-- A place of the plain twin. -/
structure RSpot where
  x : Int
  g : Nat
  s : Int
def RSpot.cells (r : RSpot) : List Value := [.int .i64 r.x, .int .u32 r.g, .int .i64 r.s]
def rowR (R : List RSpot) : List Value := R.flatMap RSpot.cells
def toSpot (r : RSpot) : Spot := ⟨r.x, r.g, decide (r.s = 1)⟩
theorem rowR_len (L : List RSpot) : (rowR L).length = L.length * 3 := by
  induction L with
  | nil => rfl
  | cons s L ih => simp only [rowR, List.flatMap_cons, List.length_append, List.length_cons] at ih ⊢; rw [ih]; simp only [RSpot.cells, List.length_cons, List.length_nil]; omega
theorem rowR_append (L M : List RSpot) : rowR (L ++ M) = rowR L ++ rowR M := by simp [rowR]
theorem rowR_at (L : List RSpot) (i j : Nat) (s : RSpot) (h : L[i]? = some s) (hj : j < 3) : (rowR L)[i * 3 + j]? = s.cells[j]? := by
  induction L generalizing i with
  | nil => simp at h
  | cons a L ih =>
    have e : rowR (a :: L) = a.cells ++ rowR L := by simp [rowR]
    rw [e]
    cases i with
    | zero =>
      simp at h; subst h
      rw [List.getElem?_append_left (by simp [RSpot.cells]; omega)]; simp
    | succ i =>
      simp at h
      rw [List.getElem?_append_right (by simp [RSpot.cells]; omega)]
      have : (i + 1) * 3 + j - a.cells.length = i * 3 + j := by simp [RSpot.cells]; omega
      rw [this]; exact ih i h
theorem rowR_set (L : List RSpot) (i j : Nat) (s s' : RSpot) (v : Value) (h : L[i]? = some s) (hj : j < 3) (hs : s.cells.set j v = s'.cells) : (rowR L).set (i * 3 + j) v = rowR (L.set i s') := by
  induction L generalizing i with
  | nil => simp at h
  | cons a L ih =>
    have e : rowR (a :: L) = a.cells ++ rowR L := by simp [rowR]
    rw [e]
    cases i with
    | zero =>
      simp at h; subst h
      rw [List.set_append_left _ _ (by simp [RSpot.cells]; omega)]
      simp only [List.set_cons_zero]
      have e2 : rowR (s' :: L) = s'.cells ++ rowR L := by simp [rowR]
      rw [e2]; congr 1; simpa using hs
    | succ i =>
      simp at h
      rw [List.set_append_right _ _ (by simp [RSpot.cells]; omega)]
      have : (i + 1) * 3 + j - a.cells.length = i * 3 + j := by simp [RSpot.cells]; omega
      rw [this, ih i h]
      simp [rowR]

structure RefW (w : World) (p : Nat) (cv fv : Value) (A : Ar) (R : List RSpot) : Prop where
  hp : w.heap[p]? = some (.cells #[.int .i64 A.most, .int .u32 A.first, cv, fv] 109 (0, 0))
  hc : w.ownsRow 0 111 3 cv R.length (rowR R)
  hf : w.ownsRow 0 3 1 fv A.F.length (rowF A.F)
  hR : A.L = R.map toSpot
  d1 : cv.ownBlock ≠ some p
  d2 : fv.ownBlock ≠ some p
  d3 : ∀ k, cv.ownBlock = some k → fv.ownBlock ≠ some k
section
variable {w : World} {p : Nat} {cv fv : Value} {A : Ar} {R : List RSpot}
theorem RefW.c0 (h : RefW w p cv fv A R) : w.cell? ⟨p, 0, none⟩ = some (.int .i64 A.most) := by rw [cell_of_row w p 0 _ 109 _ h.hp]; rfl
theorem RefW.c1 (h : RefW w p cv fv A R) : w.cell? ⟨p, 1, none⟩ = some (.int .u32 A.first) := by rw [cell_of_row w p 1 _ 109 _ h.hp]; rfl
theorem RefW.c2 (h : RefW w p cv fv A R) : w.cell? ⟨p, 2, none⟩ = some cv := by rw [cell_of_row w p 2 _ 109 _ h.hp]; rfl
theorem RefW.c3 (h : RefW w p cv fv A R) : w.cell? ⟨p, 3, none⟩ = some fv := by rw [cell_of_row w p 3 _ 109 _ h.hp]; rfl
theorem RefW.fz (h : RefW w p cv fv A R) (k : Nat) : w.frozen? ⟨p, k, none⟩ = false := frozen_of_row w p k _ 109 h.hp
theorem RefW.lt (h : RefW w p cv fv A R) : p < w.heap.size := (Array.getElem?_eq_some_iff.1 h.hp).1
theorem RefW.len (h : RefW w p cv fv A R) : A.L.length = R.length := by rw [h.hR]; simp
theorem RefW.shape (h : RefW w p cv fv A R) : ∃ a k, cv = .slice a R.length k := by
  rcases h.hc.2 with ⟨h1, h2⟩ | ⟨g, cap, _, h1, _⟩
  · exact ⟨none, 0, by rw [h1, h2]⟩
  · exact ⟨_, cap, h1⟩
theorem RefW.shapeF (h : RefW w p cv fv A R) : ∃ a k, fv = .slice a A.F.length k := by
  rcases h.hf.2 with ⟨h1, h2⟩ | ⟨g, cap, _, h1, _⟩
  · exact ⟨none, 0, by rw [h1, h2]⟩
  · exact ⟨_, cap, h1⟩
theorem RefW.form (h : RefW w p cv fv A R) {i : Nat} {s : RSpot} (hs : R[i]? = some s) : ∃ g k, cv = .slice (some ⟨g, 0, none⟩) R.length k := by
  have hlt : i < R.length := (List.getElem?_eq_some_iff.1 hs).1
  obtain ⟨g, k, h1, _⟩ := h.hc.form (by omega)
  exact ⟨g, k, h1⟩
theorem RefW.at (h : RefW w p cv fv A R) {i g k : Nat} {s : RSpot} (hs : R[i]? = some s) (hcv : cv = .slice (some ⟨g, 0, none⟩) R.length k) (j : Nat) (hj : j < 3) : w.cell? ⟨g, i * 3 + j, none⟩ = s.cells[j]? := by
  have hlt : i < R.length := (List.getElem?_eq_some_iff.1 hs).1
  have hc := h.hc
  subst hcv
  rw [hc.cellAt (i * 3 + j) (by omega), rowR_at _ _ _ _ hs hj]
theorem RefW.fr {w' : World} {fp : Nat → Prop} (h : RefW w p cv fv A R) (hf : Fr fp w w') (hp : ¬ fp p) (hc : ∀ k, cv.ownBlock = some k → ¬ fp k) (hv : ∀ k, fv.ownBlock = some k → ¬ fp k) : RefW w' p cv fv A R :=
  ⟨by rw [hf.block p h.lt hp]; exact h.hp, hf.owns h.hc hc, hf.owns h.hf hv, h.hR, h.d1, h.d2, h.d3⟩
end

theorem Handle_any (i g : Nat) (w : World) (hi : i ≤ 65536) (hg : g ≤ 4294967295) : Calls Try.prog 47 #[.int .i64 i, .int .u32 g] w fun e w' => e = .returned (.int .u64 (hand i g)) ∧ w = w' := by
  go_enter Try.func47, Try.ntmps47
  go_wp2
  go_ret
  exact ⟨ret_u64 (by unfold hand; omega), rfl⟩

def AtPost (A : Ar) (hd : Int) (w : World) (e : Ending) (w' : World) : Prop := w = w' ∧ ((∃ (i : Nat) (s : Spot), Found A hd i s ∧ e = .returned (.int .i64 i)) ∨ (Stale A hd ∧ e = .returned (.int .i64 (-1))))
set_option maxHeartbeats 400000 in
theorem At_any (w : World) (p : Nat) (cv fv : Value) (A : Ar) (R : List RSpot) (hd : Int) (h : RefW w p cv fv A R) (hA : Ok A) :
    Calls Try.prog 77 #[.pointer (some ⟨p, 0, none⟩), .int .u64 hd] w (AtPost A hd w) := by
  obtain ⟨a, k, hcv⟩ := h.shape
  have c2 := h.c2
  rw [hcv] at c2
  have HW := hid h
  have HA := hid hA
  have HCV := hid hcv
  have hl : R.length ≤ 65536 := by have := hA.len; have := hA.m2; have := h.len; omega
  clear h hA hcv
  obtain ⟨n, hn⟩ : ∃ n, n = R.length := ⟨_, rfl⟩
  rw [← hn] at c2 hl
  have HN := hid hn
  clear hn
  go_enter Try.func77, Try.ntmps77
  go_wp2
  go_loop [5] (fun i => ∃ q : Nat, q ≤ n ∧ i = .int .i64 q ∧ RowKit.Hid (∀ j s, j < q → ¬ Found A hd j s)) (fun i => n - (intOf i).toNat)
  case atStart => exact ⟨0, by omega, rfl, hid (fun j s h => by omega)⟩
  case round =>
    obtain ⟨q, hq1, rfl, hno⟩ := hrel
    by_cases hql : q < n
    · have hqR : q < R.length := by rw [← HN.out]; exact hql
      have hr : R[q]? = some R[q] := List.getElem?_eq_getElem hqR
      generalize R[q] = r at hr
      obtain ⟨g, k', hcv2⟩ := HW.out.form hr
      have g1 := HW.out.at hr hcv2 1 (by omega)
      have g2 := HW.out.at hr hcv2 2 (by omega)
      rw [HCV.out, ← HN.out] at hcv2
      simp only [Value.slice.injEq] at hcv2
      obtain ⟨rfl, -, rfl⟩ := hcv2
      have hs : A.L[q]? = some (toSpot r) := by rw [HW.out.hR]; simp [hr]
      have hgen := (HA.out.gen q _ hs).2
      obtain ⟨rx, rg, rs⟩ := r
      simp only [RSpot.cells, List.getElem?_cons_succ, List.getElem?_cons_zero] at g1 g2
      simp only [toSpot] at hgen
      have hgb : rg ≤ 4294967295 := hgen
      have HS := hid hs
      clear hs hr hqR hgen
      have next : ¬ Found A hd q (toSpot ⟨rx, rg, rs⟩) → RowKit.Hid (∀ j s, j < q + 1 → ¬ Found A hd j s) := fun hn => hid (fun j s hj hf => by
        by_cases e : j < q
        · exact hno.out j s e hf
        · obtain rfl : j = q := by omega
          have h1 := hf.1
          rw [HS.out] at h1; cases h1
          exact hn hf)
      have NX := hid next
      clear next
      have hh := fun W => Handle_any q rg W (by omega) hgb
      by_cases hst : rs = 1
      · subst hst
        obtain ⟨hv, hhv⟩ : ∃ hv, hv = hand q rg := ⟨_, rfl⟩
        rw [← hhv] at hh
        have HV := hid hhv
        have HH := hid hh
        clear hh hhv
        by_cases he : hv = hd
        · have hb : (hv == hd) = true := by simpa using he
          have HE := hid he
          clear he
          go_wp2_with (refine (HH.out _).mono ?_; rintro e w' ⟨rfl, rfl⟩)
          go_ret
          exact ⟨rfl, .inl ⟨q, _, ⟨HS.out, rfl, by rw [← HE.out, HV.out]; rfl⟩, rfl⟩⟩
        · have hb : (hv == hd) = false := by simpa using he
          have HE := hid he
          clear he
          go_wp2_with (refine (HH.out _).mono ?_; rintro e w' ⟨rfl, rfl⟩)
          go_round
          case rel => exact ⟨q + 1, by omega, by go_num, NX.out (fun hf => HE.out (by rw [HV.out, hf.2.2]; rfl))⟩
          case measure => simp [intOf]; omega
      · have hb : (rs == 1) = false := by simpa using hst
        have HE := hid hst
        clear hst hh
        go_wp2
        go_round
        case rel => exact ⟨q + 1, by omega, by go_num, NX.out (fun hf => HE.out (by have := hf.2.1; simpa [toSpot] using this))⟩
        case measure => simp [intOf]; omega
    · go_wp2
      go_ret
      refine ⟨rfl, .inr ⟨fun j s hf => hno.out j s ?_ hf, rfl⟩⟩
      have h1 := (List.getElem?_eq_some_iff.1 hf.1).1
      have h2 := HW.out.len
      have h3 := HN.out
      omega
end Go.Proofs.Ytmkajdfajcodjaa

namespace Go.Proofs.Ytmkajdfajcodjaa
open Go Go.ChangeShapes Go.WideShapes Go.ChangeAt Go.RowKit

theorem RNew_not (m f : Int) (w : World) (h : m < 1 ∨ 65536 < m ∨ f = 0) : Calls Try.prog 35 #[.int .i64 m, .int .u32 f] w fun e w' => e = .returned (.pointer none) ∧ w = w' := by
  by_cases h1 : m < 1
  · have Hm : (decide (m < 1)) = true := by simpa using h1
    clear h
    go_enter Try.func35, Try.ntmps35
    go_wp2
    go_ret
    exact ⟨rfl, rfl⟩
  · have Hm : (decide (m < 1)) = false := by simpa using h1
    by_cases h2 : 65536 < m
    · have Hm2 : (decide (65536 < m)) = true := by simpa using h2
      clear h
      go_enter Try.func35, Try.ntmps35
      go_wp2
      go_ret
      exact ⟨rfl, rfl⟩
    · have Hm2 : (decide (65536 < m)) = false := by simpa using h2
      obtain rfl : f = 0 := by omega
      clear h
      go_enter Try.func35, Try.ntmps35
      go_wp2
      go_ret
      exact ⟨rfl, rfl⟩
theorem RNew_any (m f : Int) (w : World) (h0 : 1 ≤ m) (h1 : m ≤ 65536) (h2 : 1 ≤ f) (h3 : f ≤ 4294967295) : Calls Try.prog 35 #[.int .i64 m, .int .u32 f] w fun e w' => e = .returned (.pointer (some ⟨w.heap.size, 0, none⟩)) ∧ w' = w.alloc (.cells #[.int .i64 m, .int .u32 f, .slice none 0 0, .slice none 0 0] 109) := by
  have hf : ¬ f = 0 := by omega
  have hf2 : (f == 0) = false := by simpa using hf
  have Hm : (decide (m < 1)) = false := by simp; omega
  have Hm2 : (decide (65536 < m)) = false := by simp; omega
  go_enter Try.func35, Try.ntmps35
  go_wp2
  go_ret
  exact ⟨rfl, rfl⟩

def RInS (S : Nat → Prop) (w : World) (p : Nat) (A : Ar) : Prop :=
  ∃ cv fv R, RefW w p cv fv A R ∧ Ok A ∧ S p ∧ (∀ k, cv.ownBlock = some k → S k) ∧ (∀ k, fv.ownBlock = some k → S k) ∧ ∀ k, S k → k < w.heap.size
theorem RInS.lt {S : Nat → Prop} {w : World} {p : Nat} {A : Ar} (h : RInS S w p A) : ∀ k, S k → k < w.heap.size := by
  obtain ⟨_, _, _, _, _, _, _, _, h⟩ := h; exact h
theorem RInS.fr {S fp : Nat → Prop} {w w' : World} {p : Nat} {A : Ar} (h : RInS S w p A) (hf : Fr fp w w') (hd : ∀ k, S k → ¬ fp k) : RInS S w' p A := by
  obtain ⟨cv, fv, R, h1, h2, h3, h4, h5, h6⟩ := h
  exact ⟨cv, fv, R, h1.fr hf (hd _ h3) (fun k hk => hd k (h4 k hk)) (fun k hk => hd k (h5 k hk)), h2, h3, h4, h5, fun k hk => Nat.lt_of_lt_of_le (h6 k hk) hf.size⟩
theorem RInS.wider {S : Nat → Prop} {w w' : World} {p : Nat} {A : Ar} (h : RInS S w' p A) : RInS (ext S w w') w' p A := by
  obtain ⟨cv, fv, R, h1, h2, h3, h4, h5, h6⟩ := h
  exact ⟨cv, fv, R, h1, h2, .inl h3, fun k hk => .inl (h4 k hk), fun k hk => .inl (h5 k hk), fun k hk => by rcases hk with hk | hk; exact h6 k hk; exact hk.2⟩
theorem rnew_RInS (w : World) (m f : Nat) (hm : 1 ≤ m ∧ m ≤ 65536) (hf : 1 ≤ f ∧ f ≤ 4294967295) : RInS (fun k => k = w.heap.size) (w.alloc (.cells #[.int .i64 m, .int .u32 f, .slice none 0 0, .slice none 0 0] 109)) w.heap.size (new m f) := by
  refine ⟨.slice none 0 0, .slice none 0 0, [], ⟨heap_alloc_new _ _, World.ownsRow_nil _ _ _ _, World.ownsRow_nil _ _ _ _, rfl, ?_, ?_, ?_⟩, new_ok hm hf, rfl, ?_, ?_, ?_⟩
  · simp [Value.ownBlock]
  · simp [Value.ownBlock]
  · intro k hk; simp [Value.ownBlock] at hk
  · intro k hk; simp [Value.ownBlock] at hk
  · intro k hk; simp [Value.ownBlock] at hk
  · intro k hk; subst hk; simp

theorem RefW.newc {w w' : World} {p : Nat} {cv cv' fv : Value} {A : Ar} {R : List RSpot} (h : RefW w p cv fv A R) (R' : List RSpot) (hfr : Fr (fun k => k = p ∨ cv.ownBlock = some k) w w')
    (hp : w'.heap[p]? = some (.cells #[.int .i64 A.most, .int .u32 A.first, cv', fv] 109 (0, 0))) (hc : w'.ownsRow 0 111 3 cv' R'.length (rowR R'))
    (hown : ∀ k, cv'.ownBlock = some k → cv.ownBlock = some k ∨ w.heap.size ≤ k) : RefW w' p cv' fv { A with L := R'.map toSpot } R' :=
  ⟨hp, hc, hfr.owns h.hf (fun k hk e => by
      rcases e with rfl | e
      · exact h.d2 hk
      · exact h.d3 k e hk), rfl, fun e => by
      rcases hown p e with e | e
      · exact h.d1 e
      · have := h.lt; omega, h.d2, fun k hk e => by
      rcases hown k hk with e2 | e2
      · exact h.d3 k e2 e
      · have := (h.hf.lt k e).2; omega⟩
theorem RefW.newf {w w' : World} {p : Nat} {cv fv fv' : Value} {A : Ar} {R : List RSpot} (h : RefW w p cv fv A R) (F' : List Nat) (hfr : Fr (fun k => k = p ∨ fv.ownBlock = some k) w w')
    (hp : w'.heap[p]? = some (.cells #[.int .i64 A.most, .int .u32 A.first, cv, fv'] 109 (0, 0))) (hf : w'.ownsRow 0 3 1 fv' F'.length (rowF F'))
    (hown : ∀ k, fv'.ownBlock = some k → fv.ownBlock = some k ∨ w.heap.size ≤ k) : RefW w' p cv fv' { A with F := F' } R :=
  ⟨hp, hfr.owns h.hc (fun k hk e => by
      rcases e with rfl | e
      · exact h.d1 hk
      · exact h.d3 k hk e), hf, h.hR, h.d1, fun e => by
      rcases hown p e with e | e
      · exact h.d2 e
      · have := h.lt; omega, fun k hk e => by
      rcases hown k e with e2 | e2
      · exact h.d3 k hk e2
      · have := (h.hc.lt k hk).2; omega⟩
theorem RefW.setL {w : World} {p : Nat} {fv : Value} {A : Ar} {R : List RSpot} {i b n k : Nat} {s s' : RSpot} (h : RefW w p (.slice (some ⟨b, 0, none⟩) n k) fv A R) (hn : R.length = n) (hs : R[i]? = some s) (j : Nat) (v : Value) (hj : j < 3) (hv : s.cells.set j v = s'.cells) :
    RefW (w.setCell ⟨b, i * 3 + j, none⟩ v) p (.slice (some ⟨b, 0, none⟩) n k) fv { A with L := (R.set i s').map toSpot } (R.set i s') := by
  have hbp : b ≠ p := fun e => h.d1 (by rw [e]; rfl)
  refine h.newc (R.set i s') ((Fr.refl _ _).setCell _ _ (fun _ => .inr rfl)) (by rw [Below.heap_setCell _ _ _ _ (Ne.symm hbp)]; exact h.hp) ?_ (fun k hk => .inl hk)
  have h1 := h.hc
  rw [hn] at h1
  have := (h1.stored (i * 3 + j) v).1
  rw [rowR_set _ _ _ _ _ _ hs hj hv] at this
  rw [List.length_set, hn]
  exact this
theorem own_any (a : Option Addr) (n m k k' : Nat) : (Value.slice a n k).ownBlock = (Value.slice a m k').ownBlock := by cases a <;> rfl
theorem infoSP : (Try.prog.info? 111).map (fun i => (i.zero, i.size, i.bytes)) = some (some (.agg #[.int .i64 0, .int .u32 0, .int .i64 0]), 3, 24) := by kernel_rfl

def RPost (S : Nat → Prop) (w : World) (p : Nat) (A' : Ar) (v : Value) (e : Ending) (w' : World) : Prop :=
  e = .returned v ∧ RInS (ext S w w') w' p A' ∧ Fr S w w'
set_option maxHeartbeats 1000000 in
theorem RPut_again (S : Nat → Prop) (w : World) (p : Nat) (A : Ar) (i g : Nat) (F : List Nat) (s : Spot) (x : Int) (h : RInS S w p A) (hF : A.F = F ++ [i]) (hs : A.L[i]? = some s) (hg : s.g = g) :
    Calls Try.prog 58 #[.pointer (some ⟨p, 0, none⟩), .int .i64 x] w (RPost S w p { A with L := A.L.set i ⟨x, g, true⟩, F := F } (.int .u64 (hand i g))) := by
  obtain ⟨cv, fv, R, h1, h2, h3, h4, h5, h6⟩ := h
  have hok' : Ok { A with L := A.L.set i ⟨x, g, true⟩, F := F } := by
    have := (Put.again (A := A) (x := x) F i s hF hs).ok h2
    rw [hg] at this; exact this
  have hlen : A.F.length = F.length + 1 := by rw [hF]; simp
  have hL := h1.hR
  rw [hL] at hs
  obtain ⟨r, hr, hrs⟩ : ∃ r, R[i]? = some r ∧ toSpot r = s := by
    rw [List.getElem?_map] at hs
    cases hq : R[i]? with
    | none => rw [hq] at hs; cases hs
    | some r => rw [hq] at hs; exact ⟨r, rfl, Option.some.inj hs⟩
  have hrg : r.g = g := by rw [← hg, ← hrs]; rfl
  obtain ⟨b, k, hcv⟩ := h1.form hr
  subst hcv
  have hrlt : i < R.length := (List.getElem?_eq_some_iff.1 hr).1
  have hRl : R.length ≤ 65536 := by have := h1.len; have := h2.len; have := h2.m2; omega
  have hFl : F.length ≤ 65536 := by have := h2.fl; have := h2.len; have := h2.m2; omega
  have hgl : g ≤ 4294967295 := by
    have := (h2.gen i s (by rw [hL]; exact hs)).2; omega
  have hf := h1.hf
  obtain ⟨b2, k2, hfv, _⟩ := hf.form (by omega)
  have c2 := h1.c2
  have c3 := h1.c3
  have z3 := h1.fz 3
  have g0 := h1.at hr rfl 0 (by omega)
  have g1 := h1.at hr rfl 1 (by omega)
  have g2 := h1.at hr rfl 2 (by omega)
  simp only [RSpot.cells, List.getElem?_cons_succ, List.getElem?_cons_zero] at g0 g1 g2
  rw [Nat.add_zero] at g0
  rw [hrg] at g1
  have z0 := h1.hc.frozenAt (i * 3)
  have z2 := h1.hc.frozenAt (i * 3 + 2)
  have hbp : b ≠ p := fun e => h1.d1 (by rw [e]; rfl)
  have hpb : p ≠ b := Ne.symm hbp
  have hb2p : b2 ≠ p := fun e => h1.d2 (by rw [hfv, e]; rfl)
  have hbb : b ≠ b2 := fun e => h1.d3 b rfl (by rw [hfv, e]; rfl)
  rw [hfv] at hf c3
  rw [hlen] at hf c3 hfv
  have hx := hf.cellAt F.length (by omega)
  rw [hF] at hx
  simp only [rowF, List.map_append, List.map_cons, List.map_nil] at hx
  rw [List.getElem?_append_right (by simp)] at hx
  simp at hx
  have hk : F.length + 1 ≤ k2 := by
    rcases hf.2 with ⟨e, _⟩ | ⟨g', cap', cur, hv, hb, hg, hn, _⟩
    · cases e
    · cases hv; exact hn
  -- the twin behind the walk
  have f0 : Fr (fun q => q = p) w (w.setCell ⟨p, 3, none⟩ (.slice (some ⟨b2, 0, none⟩) F.length k2)) := (Fr.refl _ _).setCell _ _ (fun _ => rfl)
  have r1 := h1.newf F (f0.mono (fun _ e _ => .inl e)) (fv' := .slice (some ⟨b2, 0, none⟩) F.length k2) (by rw [heap_setCell_same _ _ _ _ _ _ h1.hp]; rfl) (by
      refine ownsRow_setCell_other ?_ (by simp [Value.ownBlock]; exact hb2p) _
      have h9 : w.ownsRow 0 3 1 (.slice (some ⟨b2, 0, none⟩) (F.length + 1) k2) (F.length + 1) (rowF F ++ rowF [i]) := by
        have e1 : rowF A.F = rowF F ++ rowF [i] := by rw [hF]; simp [rowF]
        rw [← e1]; exact hf
      exact owns_cut h9 (by simp [rowF]) (by omega)) (fun q hq => .inl (by rw [hfv]; exact hq))
  have r2 := r1.setL (s' := ⟨x, g, r.s⟩) rfl hr 0 (.int .i64 x) (by omega) (by simp [RSpot.cells, hrg])
  have r3 := r2.setL (s := ⟨x, g, r.s⟩) (s' := ⟨x, g, 1⟩) (by simp) (List.getElem?_set_self hrlt) 2 (.int .i64 1) (by omega) rfl
  have hmap : ((R.set i ⟨x, g, r.s⟩).set i ⟨x, g, 1⟩).map toSpot = A.L.set i ⟨x, g, true⟩ := by
    rw [List.set_set, List.map_set, hL]; rfl
  have hfr : Fr S w (((w.setCell ⟨p, 3, none⟩ (.slice (some ⟨b2, 0, none⟩) F.length k2)).setCell ⟨b, i * 3 + 0, none⟩ (.int .i64 x)).setCell ⟨b, i * 3 + 2, none⟩ (.int .i64 1)) :=
    (((Fr.refl _ _).setCell _ _ (fun _ => h3)).setCell _ _ (fun _ => h4 b rfl)).setCell _ _ (fun _ => h4 b rfl)
  have hh := fun W => Handle_any i g W (by omega) hgl
  have S5 : ∀ q, fv.ownBlock = some q → S q := h5
  rw [hfv] at S5
  have R3 := hid r3
  have HM := hid hmap
  have HR := hid hfr
  have HH := hid hh
  have HO := hid hok'
  have H4 := hid h4
  have H5 := hid S5
  have H6 := hid h6
  clear r1 r2 r3 f0 hmap hfr hh hok' h4 h5 S5 h6 h1 h2 hF hs hg hL hr hrs hrg hf hfv hlen
  generalize hh2 : hand i g = hd at *
  clear hh2
  generalize F.length = nf at *
  generalize R.length = nr at *
  go_enter Try.func58, Try.ntmps58
  go_wp2_with (refine (HH.out _).mono ?_; rintro e w' ⟨rfl, rfl⟩)
  go_ret
  refine ⟨rfl, ⟨.slice (some ⟨b, 0, none⟩) nr k, .slice (some ⟨b2, 0, none⟩) nf k2, (R.set i ⟨x, g, r.s⟩).set i ⟨x, g, 1⟩, ?_, HO.out, .inl h3, fun q hq => .inl (H4.out q hq), fun q hq => .inl (H5.out q hq), fun q hq => ?_⟩, HR.out⟩
  · have := R3.out
    rw [HM.out] at this
    exact this
  · rcases hq with hq | hq
    · exact Nat.lt_of_lt_of_le (H6.out q hq) HR.out.size
    · exact hq.2
theorem RPut_full (S : Nat → Prop) (w : World) (p : Nat) (A : Ar) (x : Int) (h : RInS S w p A) (hF : Full A) :
    Calls Try.prog 58 #[.pointer (some ⟨p, 0, none⟩), .int .i64 x] w fun e w' => e = .returned (.int .u64 0) ∧ w = w' := by
  obtain ⟨cv, fv, R, h1, h2, h3, h4, h5, h6⟩ := h
  obtain ⟨a, k, hcv⟩ := h1.shape
  obtain ⟨a', k', hfv⟩ := h1.shapeF
  have c0 := h1.c0
  have c2 := h1.c2
  have c3 := h1.c3
  have hl := h2.m2
  rw [hcv, ← h1.len, hF.2] at c2
  rw [hfv, hF.1, List.length_nil] at c3
  clear hcv hfv h1 h2 hF
  generalize A.most = m at *
  go_enter Try.func58, Try.ntmps58
  go_wp2
  go_ret
  exact ⟨rfl, rfl⟩
set_option maxHeartbeats 1000000 in
set_option maxRecDepth 100000 in
theorem RPut_fresh (S : Nat → Prop) (w : World) (p : Nat) (A : Ar) (x : Int) (h : RInS S w p A) (hF : A.F = []) (hlt : A.L.length < A.most) :
    Calls Try.prog 58 #[.pointer (some ⟨p, 0, none⟩), .int .i64 x] w (RPost S w p { A with L := A.L ++ [⟨x, A.first, true⟩] } (.int .u64 (hand A.L.length A.first))) := by
  obtain ⟨cv, fv, R, h1, h2, h3, h4, h5, h6⟩ := h
  have hok' := (Put.fresh (A := A) (x := x) hF hlt).ok h2
  obtain ⟨a, k, hcv⟩ := h1.shape
  obtain ⟨a', k', hfv⟩ := h1.shapeF
  have c0 := h1.c0
  have c1 := h1.c1
  have c2 := h1.c2
  have c3 := h1.c3
  have z2 := h1.fz 2
  have hl := h2.m2
  have hf2 := h2.f2
  have hLn := h1.len
  rw [hcv] at c2
  rw [hfv, hF, List.length_nil] at c3
  obtain ⟨i0, hi, hz0, hz1, hz2⟩ := info_parts infoSP
  have hi' := hid hi
  have hz0' := hid hz0
  have hz1' := hid hz1
  have hz2' := hid hz2
  have hc := h1.hc
  have hplt := h1.lt
  have hd1 := h1.d1
  have hh := fun W => Handle_any A.L.length A.first W (by omega) hf2
  obtain ⟨hd, hhd⟩ : ∃ hd, hd = hand A.L.length A.first := ⟨_, rfl⟩
  rw [← hhd] at hh ⊢
  have hA := hid h2
  have HW := hid h1
  have HO := hid hok'
  have HH := hid hh
  have HCV := hid hcv
  have HFV := hid hfv
  have HLN := hid hLn
  have H4 := hid h4
  have H5 := hid h5
  have H6 := hid h6
  have HHD := hid hhd
  have HHF := hid hF
  obtain ⟨n, hn⟩ : ∃ n, n = A.L.length := ⟨_, rfl⟩
  rw [← hLn, ← hn] at c2
  rw [← hn] at hlt
  rw [hcv, ← hLn, ← hn] at hc
  rw [hLn] at hn
  have HN := hid hn
  clear hi hz0 hz1 hz2 hcv hfv hF h1 h2 hok' hh hLn h4 h5 h6 hhd hn
  go_enter Try.func58, Try.ntmps58
  go_wp2
  refine wp_region_mix [0, 0, 0, 0, 1, 0, 0, 0, 0, 1, 0, 2, 2, 0, 0, 3] (fun W => W.cell? ⟨p, 1, none⟩ = some (.int .u32 A.first) ∧ W.cell? ⟨p, 2, none⟩ = some (.slice a n k)) (by kernel_rfl) (by kernel_rfl) ⟨by simpa using c1, by simpa using c2⟩ ?_
  repeat (first
    | (refine' wpMix_value _ rfl rfl _ _; rotate_left; (solve | (intro W; go_simp) | (intro W; go_simp; with_reducible rfl)); simp only [Act.put, List.setIfInBounds_toArray, List.set_cons_zero, List.set_cons_succ])
    | (refine' wpMix_read _ rfl rfl _ _; rotate_left; (solve | (rintro W ⟨h1, h2⟩; go_simp) | (rintro W ⟨h1, h2⟩; go_simp; with_reducible rfl)); simp only [Act.put, List.setIfInBounds_toArray, List.set_cons_zero, List.set_cons_succ]))
  clear c0 c3
  obtain ⟨w2, hw2⟩ : ∃ w2, w2 = w.drew := ⟨_, rfl⟩
  rw [← hw2]
  have hc2 : w2.ownsRow 0 111 3 (.slice a n k) n (rowR R) := by rw [hw2, HN.out]; rw [HN.out] at hc; exact hc
  have c12 : w2.cell? ⟨p, 1, none⟩ = some (.int .u32 A.first) := by rw [hw2]; exact c1
  have c22 : w2.cell? ⟨p, 2, none⟩ = some (.slice a n k) := by rw [hw2]; exact c2
  have hp2 : p < w2.heap.size := by rw [hw2]; exact hplt
  have HW2 := hid hw2
  have HC := hid hc2
  clear hw2 hc hc2
  refine wpMix_write (.slice (some ⟨w2.heap.size, 0, none⟩) 1 1) (w2.alloc (.cells #[.int .i64 x, .int .u32 A.first, .int .i64 1] 111)) (by decide) rfl ?nrun1 ?nS1 ?nrest1
  case nrun1 => go_simp
  case nS1 => exact fun _ => ⟨by rw [World.cell?_of_block (Below.heap_alloc _ _ _ hp2)]; exact c12, by rw [World.cell?_of_block (Below.heap_alloc _ _ _ hp2)]; exact c22⟩
  simp only [Act.put, List.setIfInBounds_toArray, List.set_cons_zero, List.set_cons_succ]
  refine wpMix_append (by decide) rfl (.tmp 72) (.tmp 79) 107 rfl 0 111 i0 _ 3 24 Try.underlying107 hi'.out hz0'.out hz1'.out hz2'.out rfl (by decide) (.slice a n k) n _ rfl (HC.out.alloc _) ⟨w2.heap.size, 0, none⟩ 1 1 [.int .i64 x, .int .u32 A.first, .int .i64 1] rfl rfl (World.news_of_block (heap_alloc_new _ _)) (by simp [Value.oneCell']) (by decide) (by unfold maxLen; omega) (by omega) (Nat.zero_le _) (w2.heap.size + 1) (by simp) ?_
  intro g3 k3 w3 hown3 hgrow3 hat3 hlt3
  have hd1' : (Value.slice a n k).ownBlock ≠ some p := by
    have := hd1; rw [HCV.out, own_any a R.length n k k] at this; exact this
  have hb3 : w3.heap[p]? = w2.heap[p]? := by
    rw [hgrow3.block p (by simp; omega) (fun e => hd1' e.symm)]; exact Below.heap_alloc _ _ _ hp2
  have c13 : w3.cell? ⟨p, 1, none⟩ = some (.int .u32 A.first) := (World.cell?_of_block hb3).trans c12
  have c23 : w3.cell? ⟨p, 2, none⟩ = some (.slice a n k) := (World.cell?_of_block hb3).trans c22
  have z23 : w3.frozen? ⟨p, 2, none⟩ = false := by rw [World.frozen?_of_block hb3, HW2.out]; exact z2
  refine ⟨fun _ => ⟨c13, c23⟩, ?_⟩
  have HOW := hid hown3
  have HG := hid hgrow3
  have HA3 := hid hat3
  have HB := hid hb3
  clear hown3 hgrow3 hat3 c12 c22 c1 c2 z2 hb3
  simp only [Act.put, List.setIfInBounds_toArray, List.set_cons_zero, List.set_cons_succ]
  repeat (first
    | (refine' wpMix_value _ rfl rfl _ _; rotate_left; (solve | (intro W; go_simp) | (intro W; go_simp; with_reducible rfl)); simp only [Act.put, List.setIfInBounds_toArray, List.set_cons_zero, List.set_cons_succ]))
  refine wpMix_skip (w3.setCell ⟨p, 2, none⟩ (.slice (some ⟨g3, 0, none⟩) (n + 1) k3)) (by decide) rfl ?nrun2 (fun h => by cases h) ?nrest2
  case nrun2 => go_simp
  simp only [Act.put]
  refine wpMix_end ?_
  have hle : n = A.L.length := by rw [HN.out, HLN.out]
  have HH3 := HH.out
  rw [← hle] at HH3
  have HH4 := hid HH3
  clear HH3 hle
  go_wp2_with (refine (HH4.out _).mono ?_; rintro e w' ⟨rfl, rfl⟩)
  have hg3 : ∀ q, (Value.slice (some ⟨g3, 0, none⟩) (n + 1) k3).ownBlock = some q → cv.ownBlock = some q ∨ w.heap.size ≤ q := fun q hq => by
    simp [Value.ownBlock] at hq
    subst hq
    rcases HA3.out with e | e
    · left; rw [HCV.out, own_any a R.length n k k]; exact e
    · right; have : w2.heap.size = w.heap.size := by rw [HW2.out]; rfl
      omega
  have hfr : Fr (fun q => q = p ∨ cv.ownBlock = some q) w (w3.setCell ⟨p, 2, none⟩ (.slice (some ⟨g3, 0, none⟩) (n + 1) k3)) := by
    refine Fr.setCell ?_ _ _ (fun _ => .inl rfl)
    have h2 : Fr (fun q => q = p ∨ cv.ownBlock = some q) w w2 := by rw [HW2.out]; exact (Fr.refl _ _).drew
    exact (h2.alloc _).grown HG.out (fun q hq _ => .inr (by rw [HCV.out, own_any a R.length n k k]; exact hq))
  have hg3p : g3 ≠ p := fun e => by
    rcases hg3 p (by simp [Value.ownBlock, e]) with e | e
    · exact hd1 e
    · omega
  have hpw : w3.heap[p]? = some (.cells #[.int .i64 A.most, .int .u32 A.first, cv, fv] 109 (0, 0)) := by
    rw [HB.out, HW2.out]; exact HW.out.hp
  have hnew := HW.out.newc (R ++ [(⟨x, A.first, 1⟩ : RSpot)]) hfr (by rw [heap_setCell_same _ _ _ _ _ _ hpw]; rfl) (cv' := .slice (some ⟨g3, 0, none⟩) (n + 1) k3)
    (by
      rw [List.length_append, rowR_append, ← HN.out]
      exact ownsRow_setCell_other HOW.out (by simp [Value.ownBlock]; exact hg3p) _) hg3
  have hfrS : Fr S w (w3.setCell ⟨p, 2, none⟩ (.slice (some ⟨g3, 0, none⟩) (n + 1) k3)) := hfr.mono (fun q e _ => by
    rcases e with rfl | e
    · exact h3
    · exact H4.out q e)
  have hAL : (R ++ [(⟨x, A.first, 1⟩ : RSpot)]).map toSpot = A.L ++ [⟨x, A.first, true⟩] := by rw [List.map_append, HW.out.hR]; rfl
  rw [hAL] at hnew
  have HNW : RowKit.Hid (RefW (w3.setCell ⟨p, 2, none⟩ (.slice (some ⟨g3, 0, none⟩) (n + 1) k3)) p (.slice (some ⟨g3, 0, none⟩) (n + 1) k3) fv { A with L := A.L ++ [⟨x, A.first, true⟩] } (R ++ [(⟨x, A.first, 1⟩ : RSpot)])) := hid hnew
  have HFR := hid hfrS
  have HG3 := hid hg3
  clear hnew hfr hg3 hpw hg3p hfrS hAL
  go_ret
  refine ⟨rfl, ⟨.slice (some ⟨g3, 0, none⟩) (n + 1) k3, fv, R ++ [(⟨x, A.first, 1⟩ : RSpot)], HNW.out, HO.out, .inl h3, fun q hq => ?_, fun q hq => .inl (H5.out q hq), fun q hq => ?_⟩, HFR.out⟩
  · rcases HG3.out q hq with e | e
    · exact .inl (H4.out q e)
    · exact .inr ⟨e, (HNW.out.hc.lt q hq).2⟩
  · rcases hq with hq | hq
    · exact Nat.lt_of_lt_of_le (H6.out q hq) HFR.out.size
    · exact hq.2
end Go.Proofs.Ytmkajdfajcodjaa
