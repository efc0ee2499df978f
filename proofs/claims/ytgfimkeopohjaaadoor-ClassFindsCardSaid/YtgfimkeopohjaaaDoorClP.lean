/- ClE ClG ClP in one -/
import Derived.Test.YtgfimkeopohjaaaDoorClA
import Derived.Test.YtgfimkeopohjaaaDoorWrA
namespace Go.Proofs.YtgfimkeopohjaaaDoor
open Go Go.ChangeShapes Go.WideShapes Go.ChangeAt Go.RowKit

abbrev u8w (z : Int) : Int := IntKind.u8.wrap z
def inF (x : Ins) : List Int := [u8w x.op, u8w x.b] ++ lay [] (IntKind.u32.wrap x.a) 4
def meF (l : List Ins) : List Int := [u8w l.length] ++ l.flatMap inF
def faF (f : Face) : List Int := f.id ++ [wrap64 (f.base + 1) % 256]
def clF (c : Cls) : List Int := c.id ++ ([u8w c.faces.length] ++ (c.faces.flatMap faF ++ ([u8w c.slots, u8w c.methods.length] ++ c.methods.flatMap meF)))
def formM (l : List Cls) : List Int := [u8w l.length] ++ l.flatMap clF
theorem flat_step {α : Type} {f : α → List Int} {l : List α} {q : Nat} {x : α} (h : l[q]? = some x) : (l.drop q).flatMap f = f x ++ (l.drop (q + 1)).flatMap f := by
  obtain ⟨hlt, e⟩ := List.getElem?_eq_some_iff.1 h
  rw [List.drop_eq_getElem_cons hlt, e, List.flatMap_cons]
theorem flat_end {α : Type} {f : α → List Int} {l : List α} : (l.drop l.length).flatMap f = [] := by rw [List.drop_length]; rfl
/-- A row of bytes of the call's own, since the world w1. -/
def EB (w1 W : World) (v : Value) (xs : List Int) : Prop := W.ownsRow w1.heap.size 5 1 v xs.length (u8l xs) ∧ Below w1.heap.size w1 W
section
variable {w1 W W' wa w5 : World} {v v5 : Value} {xs zs : List Int}
theorem EB.on (h : EB w1 W v xs) (hB : Below W.heap.size W W') : EB w1 W' v xs := ⟨(Fr.of_below (fp := fun _ => False) hB).owns h.1 (fun _ _ h => h), h.2.trans (hB.mono h.2.size)⟩
theorem EB.push {m : Nat} (h : EB w1 W v xs) (ha : Fr (fun _ => False) W wa) (hown : w5.ownsRow w1.heap.size 5 1 v5 m (u8l xs ++ u8l zs)) (hg : wa.grownBy w5 v.ownBlock) : EB w1 w5 v5 (xs ++ zs) := own_push h.2 h.1 ha hown hg
/-- Blocks of another type stay. -/
theorem EB.other (h : EB w1 W v xs) (ha : Fr (fun _ => False) W wa) (hg : wa.grownBy w5 v.ownBlock) {k : Nat} {cs : Array Value} {t : TypeId} {fr : Nat × Nat} (hk : W.heap[k]? = some (.cells cs t fr)) (ht : t ≠ 5) : w5.heap[k]? = some (.cells cs t fr) := by
  have hkl := (Array.getElem?_eq_some_iff.1 hk).1
  refine (hg.block k (Nat.lt_of_lt_of_le hkl ha.size) (fun e => ?_)).trans ((ha.block k hkl (fun h => h)).trans hk)
  rcases h.1.2 with ⟨rfl, _⟩ | ⟨g, cap, cur, rfl, _, hgb, _⟩
  · cases e
  · have e2 : k = g := by simpa [Value.ownBlock] using e
    subst e2
    rw [hk] at hgb
    cases hgb
    exact ht rfl
theorem EB.below (h : EB w1 W v xs) : Below w1.heap.size w1 W := h.2
end
/-- Whatever is appended, the whole form is no longer than it is. -/
theorem form_bound {out rest : List Int} {l : List Cls} (h : formM l = out ++ rest) (hl : (formM l).length ≤ 1000000) : out.length + rest.length ≤ 1000000 := by
  rw [h, List.length_append] at hl
  exact hl
theorem lay4_len (n : Int) : (lay [] n 4).length = 4 := by
  rw [lay_len]; rfl
theorem u32_ok (a : Int) : 0 ≤ IntKind.u32.wrap a ∧ IntKind.u32.wrap a ≤ 18446744073709551615 := by
  have := Int.emod_nonneg a (show (4294967296 : Int) ≠ 0 by decide)
  have := Int.emod_lt_of_pos a (show (0 : Int) < 4294967296 by decide)
  have e : IntKind.u32.wrap a = a % 4294967296 := by rfl
  omega
theorem u32_u64 (a : Int) : IntKind.u64.wrap (IntKind.u32.wrap a) = IntKind.u32.wrap a := by
  have h0 : 0 ≤ IntKind.u32.wrap a ∧ IntKind.u32.wrap a ≤ 4294967295 := by
    have := Int.emod_nonneg a (show (4294967296 : Int) ≠ 0 by decide)
    have := Int.emod_lt_of_pos a (show (0 : Int) < 4294967296 by decide)
    have e : IntKind.u32.wrap a = a % 4294967296 := by rfl
    omega
  exact IntWalk.u64_in _ (by omega)
end Go.Proofs.YtgfimkeopohjaaaDoor

namespace Go.Proofs.YtgfimkeopohjaaaDoor
open Go Go.ChangeShapes Go.WideShapes Go.ChangeAt Go.RowKit

theorem at_any (w : World) (ad : Option Addr) (cap n i : Nat) (b : List Int) (hbs : Bs w w.heap.size ad b) (hn : n = b.length) (hb : Byt b) :
    Calls Tryd.prog 40 #[.slice ad n cap, .int .i64 i] w fun e w' => e = .returned (.int .i64 (b.getD i 0)) ∧ w = w' := by
  by_cases h : i < n
  · obtain ⟨bb, o, rfl, _⟩ := hbs.some (by omega)
    have c1 := hbs.cell (j := i) (by omega)
    have hx := getD_byt hb i
    generalize b.getD i 0 = x at *
    clear hbs hn hb
    have wx : IntKind.i64.wrap x = x := IntWalk.i64_in _ (by omega)
    go_enter Tryd.func40, Tryd.ntmps40
    go_wp2
    go_ret
    exact ⟨rfl, rfl⟩
  · have hz : b.getD i 0 = 0 := by rw [List.getD_eq_getElem?_getD, List.getElem?_eq_none (by omega)]; rfl
    have HZ := hid hz
    clear hbs hn hz hb
    go_enter Tryd.func40, Tryd.ntmps40
    go_wp2
    go_ret
    exact ⟨by rw [HZ.out]; rfl, rfl⟩
/-- The sixteen bytes at a place; 0: there are none. -/
def gdC (b : List Int) (k m : Nat) : List Int := (List.range 16).map fun j => if j < m then b.getD (k + j) 0 else 0
def guidC (b : List Int) (k : Nat) : List Int := gdC b k 16
theorem gdC_len (b : List Int) (k m : Nat) : (gdC b k m).length = 16 := by simp [gdC]
theorem gdC_set (b : List Int) (k m : Nat) : (gdC b k m).set m (b.getD (k + m) 0) = gdC b k (m + 1) := by
  apply List.ext_getElem?
  intro j
  unfold gdC
  rw [List.getElem?_set]
  by_cases hj : j < 16
  · rw [List.getElem?_map, List.getElem?_map, List.getElem?_range hj]
    by_cases he : m = j
    · subst he; simp [hj]
    · simp only [if_neg he, Option.map_some]
      by_cases h1 : j < m
      · rw [if_pos h1, if_pos (by omega)]
      · rw [if_neg h1, if_neg (by omega)]
  · have e : ∀ f : Nat → Int, ((List.range 16).map f)[j]? = none := fun f => List.getElem?_eq_none (by simp; omega)
    rw [e, e]
    by_cases he : m = j
    · rw [if_pos he, if_neg (by simp; omega)]
    · rw [if_neg he]
theorem gdC_zero (b : List Int) (k : Nat) : gdC b k 0 = List.replicate 16 0 := by
  unfold gdC
  simp only [Nat.not_lt_zero, if_false]
  rfl
set_option maxRecDepth 100000 in
set_option maxHeartbeats 2000000 in
theorem guid_any (w : World) (ad : Option Addr) (cap n k : Nat) (b : List Int) (hbs : Bs w w.heap.size ad b) (hn : n = b.length) (hb : Byt b) (hk : k ≤ 100000000) :
    Calls Tryd.prog 41 #[.slice ad n cap, .int .i64 k] w fun e w' => e = .returned (.agg (u8s (guidC b k))) ∧ Below w.heap.size w w' := by
  obtain ⟨w1, hw1⟩ : ∃ w1, w1 = (w.alloc (.cells (u8s (List.replicate 16 0)) 34)).alloc (.cells (u8s (List.replicate 16 0)) 34) := ⟨_, rfl⟩
  have hr : w1.heap[w.heap.size]? = some (.cells (u8s (List.replicate 16 0)) 34 (0, 0)) := by rw [hw1]; exact heap_alloc2_old _ _ _
  have hg : w1.heap[w.heap.size + 1]? = some (.cells (u8s (gdC b k 0)) 34 (0, 0)) := by rw [hw1, gdC_zero]; exact heap_alloc2_new _ _ _
  have hB : Below w.heap.size w w1 := by rw [hw1]; exact ((Below.refl _ _).alloc (Nat.le_refl _) _).alloc (by simp) _
  have HW1 := hid hw1
  have HBS := hid hbs
  have HN := hid hn
  have HB := hid hb
  have HST : RowKit.Hid (Below w.heap.size w w1 ∧ w1.heap[w.heap.size]? = some (.cells (u8s (List.replicate 16 0)) 34 (0, 0)) ∧ w1.heap[w.heap.size + 1]? = some (.cells (u8s (gdC b k 0)) 34 (0, 0))) := hid ⟨hB, hr, hg⟩
  clear hw1 hr hg hB hbs hn hb
  go_enter Tryd.func41, Tryd.ntmps41
  go_upto_region 2 with (fail)
  change Code.wp _ _ _ _ ((w.alloc (.cells (u8s (List.replicate 16 0)) 34)).alloc (.cells (u8s (List.replicate 16 0)) 34))
  rw [← HW1.out]
  clear HW1
  go_wp2_with fail
  go_loopw [6] (fun m wr => ∃ q : Nat, q ≤ 16 ∧ m = .int .i64 q ∧ RowKit.Hid (Below w.heap.size w wr ∧ wr.heap[w.heap.size]? = some (.cells (u8s (List.replicate 16 0)) 34 (0, 0)) ∧ wr.heap[w.heap.size + 1]? = some (.cells (u8s (gdC b k q)) 34 (0, 0)))) (fun m _ => 16 - (intOf m).toNat)
  case atStart => exact ⟨0, by omega, rfl, HST⟩
  case round =>
    clear HST
    obtain ⟨q, hq, rfl, HR⟩ := hrel
    by_cases hlt : q < 16
    · have wk : IntKind.i64.wrap ((k : Int) + (q : Int)) = ((k + q : Nat) : Int) := by rw [IntWalk.i64_in _ (by omega)]; omega
      have HAT := hid (at_any wr ad cap n (k + q) b ((HBS.out.below HR.out.1).mono HR.out.1.size) HN.out HB.out)
      have hx := getD_byt HB.out (k + q)
      have HP := hid (gdC_set b k q)
      have HC0 := hid (cell_u8s HR.out.2.2 q (by rw [gdC_len]; exact hlt))
      have HZ0 := hid (frozen_of_row wr (w.heap.size + 1) q _ 34 HR.out.2.2)
      generalize b.getD (k + q) 0 = x at *
      have wx : IntKind.u8.wrap x = x := IntWalk.u8_in _ (by omega)
      go_wp2_with fail
      refine HAT.out.mono ?_
      rintro e w2 ⟨rfl, rfl⟩
      have c0 := HC0.out
      have z0 := HZ0.out
      clear HAT HC0 HZ0
      go_wp2
      refine ⟨⟨q + 1, by omega, by go_num, hid ⟨?_, ?_, ?_⟩⟩, by simp [intOf]; omega⟩
      · exact HR.out.1.setCell (p := ⟨w.heap.size + 1, q, none⟩) (by simp) _
      · rw [Below.heap_setCell _ _ _ _ (by simp)]; exact HR.out.2.1
      · rw [set_u8s HR.out.2.2, HP.out]
    · obtain rfl : q = 16 := by omega
      have HR2 := hid (show Below w.heap.size w wr ∧ wr.heap[w.heap.size]? = some (.cells (u8s (List.replicate 16 0)) 34 (0, 0)) ∧ wr.heap[w.heap.size + 1]? = some (.cells (u8s (guidC b k)) 34 (0, 0)) from HR.out)
      have HL := hid (gdC_len b k 16)
      clear HR HB HBS HN
      go_wp2_with (first
        | ((with_reducible refine at_op ⟨some 19, _, _, _, _, _⟩ ?_); refine wpList_load_row rfl 34 _ rfl (w.heap.size + 1) rfl 34 (u8s (guidC b k)) (0, 0) _ HR2.out.2.2 Tryd.underlying34 rfl (by rw [u8s_size]; unfold guidC; rw [HL.out]; exact size28) ?_)
        | ((with_reducible refine at_op ⟨none, .store 34 (.tmp 4) (.tmp 19), _, _, _, _⟩ ?_); refine wpList_store_row rfl 34 _ _ rfl w.heap.size (u8s (guidC b k)) rfl rfl 34 (u8s (List.replicate 16 0)) HR2.out.2.1 (by rw [u8s_size]; unfold guidC; rw [HL.out]; exact size28) (by rw [u8s_size, u8s_size]; unfold guidC; rw [HL.out]; rfl) (u8s_one _) ?_))
      have hZ5 : (wr.setRow w.heap.size (u8s (guidC b k))).heap[w.heap.size]? = some (.cells (u8s (guidC b k)) 34 (0, 0)) := setRow_heap _ _ _ _ _ _ HR2.out.2.1
      refine bodyPost_ret (v := .agg (u8s (guidC b k))) ?_ rfl ⟨rfl, below_setRow HR2.out.1 _ _ (Nat.le_refl _)⟩
      rw [results_cell1 (fn := Tryd.f41) rfl]
      simp only [Act.put, List.setIfInBounds_toArray, List.set_cons_zero, List.set_cons_succ]
      have hl := run_loadVar_row (P := Tryd.prog) _ w.heap.size 34 34 (u8s (guidC b k)) (0, 0) _ hZ5 Tryd.underlying34 rfl (by rw [u8s_size]; unfold guidC; rw [HL.out]; exact size28)
      simp [asAddr, hl, Result.andThen]
end Go.Proofs.YtgfimkeopohjaaaDoor

namespace Go.Proofs.YtgfimkeopohjaaaDoor
open Go Go.ChangeShapes Go.WideShapes Go.ChangeAt Go.RowKit

def sgn (v : Int) : Int := if 2147483647 < v then v - 4294967296 else v
def insAt (b : List Int) (k : Nat) : Ins := ⟨b.getD k 0, sgn (b.getD (k + 2) 0 + 256 * b.getD (k + 3) 0 + 65536 * b.getD (k + 4) 0 + 16777216 * b.getD (k + 5) 0), b.getD (k + 1) 0⟩
def insTo (b : List Int) (k n : Nat) : List Ins := (List.range n).map fun j => insAt b (k + 6 * j)
def facAt (b : List Int) (k : Nat) : Face := ⟨guidC b k, b.getD (k + 16) 0 - 1⟩
def facTo (b : List Int) (k n : Nat) : List Face := (List.range n).map fun j => facAt b (k + 17 * j)
/-- The first n methods from k on, and where they end. -/
def metTo (b : List Int) (k : Nat) : Nat → List (List Ins) × Nat
  | 0 => ([], k)
  | n + 1 => let r := metTo b k n; (r.1 ++ [insTo b (r.2 + 1) (b.getD r.2 0).toNat], r.2 + 1 + 6 * (b.getD r.2 0).toNat)
def clsAt (b : List Int) (k : Nat) : Cls × Nat :=
  let n := (b.getD (k + 16) 0).toNat
  let k2 := k + 17 + 17 * n
  let r := metTo b (k2 + 2) (b.getD (k2 + 1) 0).toNat
  (⟨guidC b k, facTo b (k + 17) n, b.getD k2 0, r.1⟩, r.2)
/-- The first n classes, and where they end. -/
def decN (b : List Int) : Nat → List Cls × Nat
  | 0 => ([], 1)
  | n + 1 => let r := decN b n; (r.1 ++ [(clsAt b r.2).1], (clsAt b r.2).2)
theorem getD_drop {b xs rest : List Int} {k j : Nat} (h : b.drop k = xs ++ rest) (hj : j < xs.length) : b.getD (k + j) 0 = xs.getD j 0 := by
  have h1 : (b.drop k)[j]? = xs[j]? := by rw [h, List.getElem?_append_left hj]
  rw [List.getElem?_drop] at h1
  rw [List.getD_eq_getElem?_getD, List.getD_eq_getElem?_getD, h1]
theorem drop_drop {b xs rest : List Int} {k n : Nat} (h : b.drop k = xs ++ rest) (hn : xs.length = n) : b.drop (k + n) = rest := by
  rw [← List.drop_drop, h, ← hn, List.drop_left]
structure InE (x : Ins) : Prop where
  op : 0 ≤ x.op ∧ x.op ≤ 255
  b : 0 ≤ x.b ∧ x.b ≤ 255
  a : -2147483648 ≤ x.a ∧ x.a ≤ 2147483647
theorem lay4 (n : Int) : lay [] n 4 = [n % 256, n / 256 % 256, n / 256 / 256 % 256, n / 256 / 256 / 256 % 256] := rfl
theorem u8w_in {z : Int} (h : 0 ≤ z ∧ z ≤ 255) : u8w z = z := IntWalk.u8_in _ (by omega)
theorem inF_eq {x : Ins} (hx : InE x) : inF x = [x.op, x.b, x.a % 4294967296 % 256, x.a % 4294967296 / 256 % 256, x.a % 4294967296 / 256 / 256 % 256, x.a % 4294967296 / 256 / 256 / 256 % 256] := by
  unfold inF
  rw [u8w_in hx.op, u8w_in hx.b, lay4, show IntKind.u32.wrap x.a = x.a % 4294967296 from rfl]
  rfl
theorem ins_read {b rest : List Int} {k : Nat} {x : Ins} (hx : InE x) (h : b.drop k = inF x ++ rest) : insAt b k = x ∧ b.drop (k + 6) = rest := by
  have he := inF_eq hx
  refine ⟨?_, drop_drop h (by rw [he]; rfl)⟩
  have g0 := getD_drop (j := 0) h (by rw [he]; simp)
  have g1 := getD_drop (j := 1) h (by rw [he]; simp)
  have g2 := getD_drop (j := 2) h (by rw [he]; simp)
  have g3 := getD_drop (j := 3) h (by rw [he]; simp)
  have g4 := getD_drop (j := 4) h (by rw [he]; simp)
  have g5 := getD_drop (j := 5) h (by rw [he]; simp)
  rw [he] at g0 g1 g2 g3 g4 g5
  simp only [List.getD_cons_zero, List.getD_cons_succ, Nat.add_zero] at g0 g1 g2 g3 g4 g5
  obtain ⟨op, a, bb⟩ := x
  have ha := hx.a
  unfold insAt
  rw [g0, g1, g2, g3, g4, g5]
  simp only at ha ⊢
  have hs : sgn (a % 4294967296 % 256 + 256 * (a % 4294967296 / 256 % 256) + 65536 * (a % 4294967296 / 256 / 256 % 256) + 16777216 * (a % 4294967296 / 256 / 256 / 256 % 256)) = a := by
    have e : a % 4294967296 % 256 + 256 * (a % 4294967296 / 256 % 256) + 65536 * (a % 4294967296 / 256 / 256 % 256) + 16777216 * (a % 4294967296 / 256 / 256 / 256 % 256) = a % 4294967296 := by omega
    rw [e]
    unfold sgn
    split <;> omega
  rw [hs]
theorem inTo_succ (b : List Int) (k n : Nat) : insTo b k (n + 1) = insTo b k n ++ [insAt b (k + 6 * n)] := by
  unfold insTo; rw [List.range_succ, List.map_append]; rfl
theorem facTo_succ (b : List Int) (k n : Nat) : facTo b k (n + 1) = facTo b k n ++ [facAt b (k + 17 * n)] := by
  unfold facTo; rw [List.range_succ, List.map_append]; rfl
theorem inss_read {b rest : List Int} {k : Nat} : ∀ {l : List Ins}, (∀ x ∈ l, InE x) → b.drop k = l.flatMap inF ++ rest → insTo b k l.length = l ∧ b.drop (k + 6 * l.length) = rest := by
  intro l
  suffices H : ∀ n, n ≤ l.length → (∀ x ∈ l, InE x) → b.drop k = l.flatMap inF ++ rest → insTo b k n = l.take n ∧ b.drop (k + 6 * n) = (l.drop n).flatMap inF ++ rest by
    intro h1 h2
    have := H l.length (Nat.le_refl _) h1 h2
    rw [List.take_length, List.drop_length] at this
    exact this
  intro n
  induction n with
  | zero => intro _ _ h; exact ⟨rfl, h⟩
  | succ n ih =>
    intro hn he h
    obtain ⟨h1, h2⟩ := ih (by omega) he h
    have hx : l[n]? = some l[n] := List.getElem?_eq_getElem (by omega)
    rw [flat_step hx, List.append_assoc] at h2
    obtain ⟨h3, h4⟩ := ins_read (he _ (List.getElem_mem _)) h2
    refine ⟨by rw [inTo_succ, h1, h3, List.take_add_one, hx]; rfl, by rw [show k + 6 * (n + 1) = k + 6 * n + 6 by omega]; exact h4⟩
structure FaE (f : Face) : Prop where
  id : f.id.length = 16
  base : 0 ≤ f.base + 1 ∧ f.base + 1 ≤ 255
theorem guid_read {b rest g : List Int} {k : Nat} (hg : g.length = 16) (h : b.drop k = g ++ rest) : guidC b k = g ∧ b.drop (k + 16) = rest := by
  refine ⟨?_, drop_drop h hg⟩
  apply List.ext_getElem?
  intro j
  unfold guidC gdC
  by_cases hj : j < 16
  · rw [List.getElem?_map, List.getElem?_range hj, Option.map_some, if_pos hj, getD_drop h (by omega), List.getD_eq_getElem?_getD, List.getElem?_eq_getElem (by omega)]
    rfl
  · rw [List.getElem?_eq_none (by simp; omega), List.getElem?_eq_none (by omega)]
theorem faF_eq {f : Face} (hf : FaE f) : faF f = f.id ++ [f.base + 1] := by
  have h := hf.base
  unfold faF
  have e : wrap64 (f.base + 1) = f.base + 1 := by unfold wrap64; omega
  rw [e, Int.emod_eq_of_lt (by omega) (by omega)]
theorem fac_read {b rest : List Int} {k : Nat} {f : Face} (hf : FaE f) (h : b.drop k = faF f ++ rest) : facAt b k = f ∧ b.drop (k + 17) = rest := by
  rw [faF_eq hf, List.append_assoc] at h
  obtain ⟨h1, h2⟩ := guid_read hf.id h
  have h3 := getD_drop (j := 0) h2 (by simp)
  refine ⟨?_, by rw [show k + 17 = k + 16 + 1 by omega]; exact drop_drop h2 rfl⟩
  unfold facAt
  rw [h1]
  rw [Nat.add_zero] at h3
  rw [h3]
  obtain ⟨i, ba⟩ := f
  simp
theorem facs_read {b rest : List Int} {k : Nat} : ∀ {l : List Face}, (∀ x ∈ l, FaE x) → b.drop k = l.flatMap faF ++ rest → facTo b k l.length = l ∧ b.drop (k + 17 * l.length) = rest := by
  intro l
  suffices H : ∀ n, n ≤ l.length → (∀ x ∈ l, FaE x) → b.drop k = l.flatMap faF ++ rest → facTo b k n = l.take n ∧ b.drop (k + 17 * n) = (l.drop n).flatMap faF ++ rest by
    intro h1 h2
    have := H l.length (Nat.le_refl _) h1 h2
    rw [List.take_length, List.drop_length] at this
    exact this
  intro n
  induction n with
  | zero => intro _ _ h; exact ⟨rfl, h⟩
  | succ n ih =>
    intro hn he h
    obtain ⟨h1, h2⟩ := ih (by omega) he h
    have hx : l[n]? = some l[n] := List.getElem?_eq_getElem (by omega)
    rw [flat_step hx, List.append_assoc] at h2
    obtain ⟨h3, h4⟩ := fac_read (he _ (List.getElem_mem _)) h2
    refine ⟨by rw [facTo_succ, h1, h3, List.take_add_one, hx]; rfl, by rw [show k + 17 * (n + 1) = k + 17 * n + 17 by omega]; exact h4⟩
theorem byte_read {b rest : List Int} {k n : Nat} (hn : n ≤ 255) (h : b.drop k = u8w n :: rest) : (b.getD k 0).toNat = n ∧ b.drop (k + 1) = rest := by
  have h1 := getD_drop (xs := [u8w n]) (rest := rest) (j := 0) h (by simp)
  rw [Nat.add_zero] at h1
  refine ⟨?_, drop_drop (xs := [u8w n]) h rfl⟩
  rw [h1, List.getD_cons_zero, u8w_in (by omega)]
  simp
structure MeE (l : List Ins) : Prop where
  len : l.length ≤ 255
  all : ∀ x ∈ l, InE x
theorem mets_read {b rest : List Int} {k : Nat} : ∀ {ms : List (List Ins)}, (∀ l ∈ ms, MeE l) → b.drop k = ms.flatMap meF ++ rest → (metTo b k ms.length).1 = ms ∧ b.drop (metTo b k ms.length).2 = rest := by
  intro ms
  suffices H : ∀ n, n ≤ ms.length → (∀ l ∈ ms, MeE l) → b.drop k = ms.flatMap meF ++ rest → (metTo b k n).1 = ms.take n ∧ b.drop (metTo b k n).2 = (ms.drop n).flatMap meF ++ rest by
    intro h1 h2
    have := H ms.length (Nat.le_refl _) h1 h2
    rw [List.take_length, List.drop_length] at this
    exact this
  intro n
  induction n with
  | zero => intro _ _ h; exact ⟨rfl, h⟩
  | succ n ih =>
    intro hn he h
    obtain ⟨h1, h2⟩ := ih (by omega) he h
    have hx : ms[n]? = some ms[n] := List.getElem?_eq_getElem (by omega)
    have hm := he _ (List.getElem_mem (by omega : n < ms.length))
    rw [flat_step hx, List.append_assoc] at h2
    generalize ms[n] = l at hx hm h2
    unfold meF at h2
    rw [List.append_assoc] at h2
    obtain ⟨h3, h4⟩ := byte_read hm.len h2
    obtain ⟨h5, h6⟩ := inss_read hm.all h4
    unfold metTo
    simp only
    rw [h3]
    refine ⟨by rw [h1, h5, List.take_add_one, hx]; rfl, h6⟩
structure ClE (c : Cls) : Prop where
  id : c.id.length = 16
  nf : c.faces.length ≤ 255
  fs : ∀ f ∈ c.faces, FaE f
  sl : 0 ≤ c.slots ∧ c.slots ≤ 255
  nm : c.methods.length ≤ 255
  ms : ∀ l ∈ c.methods, MeE l
theorem cls_read {b rest : List Int} {k : Nat} {c : Cls} (hc : ClE c) (h : b.drop k = clF c ++ rest) : (clsAt b k).1 = c ∧ b.drop (clsAt b k).2 = rest := by
  unfold clF at h
  simp only [List.append_assoc] at h
  obtain ⟨h1, h2⟩ := guid_read hc.id h
  obtain ⟨h3, h4⟩ := byte_read hc.nf h2
  obtain ⟨h5, h6⟩ := facs_read hc.fs h4
  have h7 := getD_drop (xs := [u8w c.slots]) (j := 0) h6 (by simp)
  have h8 : b.drop (k + 16 + 1 + 17 * c.faces.length + 1) = u8w c.methods.length :: (c.methods.flatMap meF ++ rest) := drop_drop (xs := [u8w c.slots]) h6 rfl
  obtain ⟨h9, h10⟩ := byte_read hc.nm h8
  obtain ⟨h11, h12⟩ := mets_read hc.ms h10
  rw [Nat.add_zero, List.getD_cons_zero, u8w_in hc.sl] at h7
  unfold clsAt
  simp only
  rw [h3, show k + 17 + 17 * c.faces.length = k + 16 + 1 + 17 * c.faces.length by omega, show k + 17 = k + 16 + 1 by omega, h5, h7, h9, h1]
  rw [show k + 16 + 1 + 17 * c.faces.length + 2 = k + 16 + 1 + 17 * c.faces.length + 1 + 1 by omega, h11]
  exact ⟨rfl, h12⟩
/-- Of a form the module is read. -/
theorem dec_form {l : List Cls} (hl : l.length ≤ 255) (hc : ∀ c ∈ l, ClE c) : ((formM l).getD 0 0).toNat = l.length ∧ (decN (formM l) l.length).1 = l ∧ (formM l).drop (decN (formM l) l.length).2 = [] := by
  have h0 : (formM l).drop 0 = u8w l.length :: l.flatMap clF := rfl
  obtain ⟨h1, h2⟩ := byte_read hl h0
  refine ⟨h1, ?_⟩
  have H : ∀ n, n ≤ l.length → (decN (formM l) n).1 = l.take n ∧ (formM l).drop (decN (formM l) n).2 = (l.drop n).flatMap clF := by
    intro n
    induction n with
    | zero => intro _; exact ⟨rfl, h2⟩
    | succ n ih =>
      intro hn
      obtain ⟨h3, h4⟩ := ih (by omega)
      have hx : l[n]? = some l[n] := List.getElem?_eq_getElem (by omega)
      rw [flat_step hx] at h4
      obtain ⟨h5, h6⟩ := cls_read (hc _ (List.getElem_mem _)) h4
      unfold decN
      simp only
      refine ⟨by rw [h3, h5, List.take_add_one, hx]; rfl, h6⟩
  have := H l.length (Nat.le_refl _)
  rw [List.take_length, List.drop_length] at this
  exact this
end Go.Proofs.YtgfimkeopohjaaaDoor
