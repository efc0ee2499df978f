/- CmA CmB CmO CmI CmJ CmL in one -/
import Derived.Test.YtgfimkeopohjaaaDoorCmR
import Derived.Test.YtgfimkeopohjaaaDoorClY
import Derived.Test.YtgfimkeopohjaaaDoorClEn
import Derived.Test.YtgfimkeopohjaaaDoorClB
namespace Go.Proofs.YtgfimkeopohjaaaDoor
open Go Go.ChangeShapes Go.WideShapes Go.ChangeAt Go.RowKit

/-- How a reader gives up. -/
def gaveUp : Ending := .panicked [{ v := .iface 79 (.agg #[]), recovered := false }]
/-- A reader, and what it has left. -/
structure Rd (W : World) (rb : Nat) (r : List Int) : Prop where
  ex : ∃ a c, Boxed W rb 82 (.slice a r.length c) ∧ Bs W rb a r ∧ r.length ≤ c ∧ c ≤ 9223372036854775807
  by_ : Byt r
theorem Rd.lt {W : World} {rb : Nat} {r : List Int} (h : Rd W rb r) : rb < W.heap.size := by
  obtain ⟨a, c, h1, _⟩ := h.ex
  exact h1.lt
theorem Rd.on {W W' : World} {rb : Nat} {r : List Int} (h : Rd W rb r) (hB : Below W.heap.size W W') : Rd W' rb r := by
  obtain ⟨a, c, h1, h2, h3⟩ := h.ex
  exact ⟨⟨a, c, (hB.block _ h1.lt).trans h1, h2.of_blocks (fun b _ _ hb => hB.block b (Nat.lt_trans hb h1.lt)), h3⟩, h.by_⟩
/-- What is turned lies behind the reader. -/
theorem Rd.fr {W W' : World} {rb : Nat} {r : List Int} {fp : Nat → Prop} (h : Rd W rb r) (hf : Fr fp W W') (hn : ∀ j, j ≤ rb → ¬ fp j) : Rd W' rb r := by
  obtain ⟨a, c, h1, h2, h3⟩ := h.ex
  exact ⟨⟨a, c, (hf.block _ h1.lt (hn _ (Nat.le_refl _))).trans h1, h2.of_blocks (fun b _ _ hb => hf.block b (Nat.lt_trans hb h1.lt) (hn b (by omega))), h3⟩, h.by_⟩
theorem fr_row {fp : Nat → Prop} {a w : World} (h : Fr fp a w) (g : Nat) (cs : Array Value) (hp : g < a.heap.size → fp g) : Fr fp a (w.setRow g cs) :=
  ⟨h.os, h.tape, h.output, by have := h.size; simp; omega, fun k hk hn => by rw [setRow_other w g k cs (fun e => hn (by rw [e] at hk ⊢; exact hp hk))]; exact h.block k hk hn⟩
theorem fr_cells {fp : Nat → Prop} {a : World} {g : Nat} (hp : g < a.heap.size → fp g) : ∀ (vs : List Value) (o : Nat) (w : World), Fr fp a w → Fr fp a (w.setCells g o vs)
  | [], _, _, h => h
  | v :: r, o, _, h => fr_cells hp r (o + 1) _ (h.setCell ⟨g, o, none⟩ v hp)
theorem giveUp_any (w : World) : Calls Tryd.prog 39 #[] w fun e w' => e = gaveUp ∧ w' = w := by
  go_enter Tryd.func39, Tryd.ntmps39
  go_wp2
  exact ⟨rfl, rfl, rfl⟩
/-- What a reader's bytes tell. -/
def BytP (w : World) (rb : Nat) (r : List Int) (n : Nat) (e : Ending) (w' : World) : Prop :=
  Fr (fun j => j = rb) w w' ∧ (if r.length < n then e = gaveUp else ∃ b o c, e = .returned (.slice (some ⟨b, o, none⟩) n c) ∧ Rd w' rb (r.drop n) ∧ Bs w' rb (some ⟨b, o, none⟩) (r.take n) ∧ n ≤ c ∧ c ≤ 9223372036854775807)
set_option maxRecDepth 100000 in
theorem post {w : World} {rb b o N c n k : Nat} {r : List Int} {ad : Option Addr} (hk : k = c - n) (hq : Bs w rb ad (r.drop n)) (hN : N = r.length) (hn : 0 < n) (hl : n ≤ N) (hc1 : N ≤ c) (hc2 : c ≤ 9223372036854775807) (hbx : Boxed w rb 82 (.slice (some ⟨b, o, none⟩) N c)) (hbs : Bs w rb (some ⟨b, o, none⟩) r) (hby : Byt r) :
    BytP w rb r n (.returned (.slice (some ⟨b, o, none⟩) n c)) (w.setCell ⟨rb, 0, none⟩ (.slice ad (N - n) k)) := by
  have hfr : Fr (fun j => j = rb) w (w.setCell ⟨rb, 0, none⟩ (.slice ad (N - n) k)) := (Fr.refl _ _).setCell _ _ (fun _ => rfl)
  obtain ⟨b', o', he, hb⟩ := hbs.some (by omega)
  cases he
  refine ⟨hfr, ?_⟩
  rw [if_neg (by omega)]
  refine ⟨b, o, c, rfl, ⟨⟨ad, k, ?_, ?_, by rw [List.length_drop]; omega, by omega⟩, fun x hx => hby x (List.mem_of_mem_drop hx)⟩, ?_, by omega, hc2⟩
  · rw [List.length_drop, ← hN]; exact hbx.set _
  · exact hq.of_blocks fun b2 _ _ hb2 => hfr.block b2 (Nat.lt_trans hb2 hbx.lt) (by show ¬ b2 = rb; omega)
  · exact (hbs.take n).of_blocks fun b2 _ _ hb2 => hfr.block b2 (Nat.lt_trans hb2 hbx.lt) (by show ¬ b2 = rb; omega)
set_option maxRecDepth 100000 in
theorem bytes_any (w : World) (rb : Nat) (r : List Int) (n : Nat) (hn : 0 < n) (hn2 : n ≤ 1000) (h : Rd w rb r) :
    Calls Tryd.prog 67 #[.pointer (some ⟨rb, 0, none⟩), .int .i64 n] w (BytP w rb r n) := by
  obtain ⟨a, c, hbx, hbs, hc1, hc2⟩ := h.ex
  have hby := h.by_
  have c0 := hbx.cell
  have f0 := hbx.frozen
  obtain ⟨N, hN⟩ : ∃ N, N = r.length := ⟨_, rfl⟩
  have HN := hid hN
  rw [← hN] at c0 hbx hc1
  have HBX := hid hbx
  have HBS := hid hbs
  have HBY := hid hby
  clear hbx hbs hby h hN
  by_cases hl : N < n
  · have d1 : decide ((N : Int) < (n : Int)) = true := by simp; omega
    have HL := hid hl
    clear hl
    go_enter Tryd.func67, Tryd.ntmps67
    go_wp2_with fail
    refine (giveUp_any _).mono ?_
    rintro e _ ⟨rfl, rfl⟩
    refine ⟨rfl, Fr.refl _ _, ?_⟩
    rw [if_pos (by have := HL.out; have := HN.out; omega)]
    rfl
  · have d1 : decide ((N : Int) < (n : Int)) = false := by simp; omega
    obtain ⟨b, o, rfl, hb⟩ := HBS.out.some (by have := HN.out; omega)
    go_enter Tryd.func67, Tryd.ntmps67
    go_wp2
    · go_ret
      obtain rfl : c = n := by first | assumption | omega
      exact post (by omega) (by rw [List.drop_eq_nil_of_le (by have := HN.out; omega)]; exact Bs.nil _ _ _) HN.out hn (by omega) hc1 hc2 HBX.out HBS.out HBY.out
    · go_ret
      exact post rfl (HBS.out.drop n) HN.out hn (by omega) hc1 hc2 HBX.out HBS.out HBY.out
end Go.Proofs.YtgfimkeopohjaaaDoor

namespace Go.Proofs.YtgfimkeopohjaaaDoor
open Go Go.ChangeShapes Go.WideShapes Go.ChangeAt Go.RowKit

def NumP (w : World) (rb : Nat) (r : List Int) (e : Ending) (w' : World) : Prop :=
  Fr (fun j => j = rb) w w' ∧ match r with
    | [] => e = gaveUp
    | x :: r' => e = .returned (.int .i64 x) ∧ Rd w' rb r'
set_option maxRecDepth 100000 in
theorem number_any (w : World) (rb : Nat) (r : List Int) (h : Rd w rb r) :
    Calls Tryd.prog 58 #[.pointer (some ⟨rb, 0, none⟩)] w (NumP w rb r) := by
  have HC := hid (bytes_any w rb r 1 (by omega) (by omega) h)
  have HBY := hid h.by_
  clear h
  cases r with
  | nil =>
    go_enter Tryd.func58, Tryd.ntmps58
    go_wp2_with fail
    refine HC.out.mono ?_
    rintro e w2 ⟨hf, he⟩
    rw [if_pos (by simp)] at he
    subst he
    exact ⟨rfl, hf, rfl⟩
  | cons x r =>
    have hx := HBY.out x (by simp)
    have wx : IntKind.i64.wrap x = x := IntWalk.i64_in _ (by omega)
    go_enter Tryd.func58, Tryd.ntmps58
    go_wp2_with fail
    refine HC.out.mono ?_
    rintro e w2 ⟨hf, he⟩
    rw [if_neg (by simp)] at he
    obtain ⟨b, o, c, rfl, hR, hB, hc1, hc2⟩ := he
    have HR := hid hR
    have HF := hid hf
    have c0 : w2.cell? ⟨b, o, none⟩ = some (.int .u8 x) := by have := hB.cell (j := 0) (by simp); simpa using this
    clear hR hf hB HC
    go_wp2
    go_ret
    exact ⟨HF.out, rfl, HR.out⟩
set_option maxRecDepth 100000 in
theorem arrAt (b o c : Nat) (W : World) : (Instr.arrayAt 34 (.slice (some ⟨b, o, none⟩) 16 c)).run Tryd.prog W = .ok (.pointer (some ⟨b, o, none⟩)) W := by kernel_rfl
def IdP (w : World) (rb : Nat) (r : List Int) (e : Ending) (w' : World) : Prop :=
  Fr (fun j => j = rb) w w' ∧ (if r.length < 16 then e = gaveUp else e = .returned (.agg (u8s (r.take 16))) ∧ Rd w' rb (r.drop 16))
set_option maxRecDepth 100000 in
theorem id_any (w : World) (rb : Nat) (r : List Int) (h : Rd w rb r) :
    Calls Tryd.prog 59 #[.pointer (some ⟨rb, 0, none⟩)] w (IdP w rb r) := by
  obtain ⟨w1, hw1⟩ : ∃ w1, w1 = w.alloc (.cells g16 34) := ⟨_, rfl⟩
  have hb1 : Below w.heap.size w w1 := by rw [hw1]; exact (Below.refl _ _).alloc (Nat.le_refl _) _
  have hg1 : w1.heap[w.heap.size]? = some (.cells g16 34 (0, 0)) := by rw [hw1]; exact heap_alloc_new _ _
  have HC := hid (bytes_any w1 rb r 16 (by omega) (by omega) (h.on hb1))
  have HB1 := hid hb1
  have HG1 := hid hg1
  have HW := hid hw1
  have hlt := h.lt
  clear h hb1 hg1 hw1
  go_enter Tryd.func59, Tryd.ntmps59
  go_upto_region 1 with (fail)
  change Code.wp _ _ _ _ (w.alloc (.cells g16 34))
  rw [← HW.out]
  go_wp2_with fail
  refine HC.out.mono ?_
  rintro e w2 ⟨hf, he⟩
  have hf2 : Fr (fun j => j = rb) w w2 := (Fr.of_below HB1.out).trans (hf.mono (fun j hj _ => hj)) (fun j hj _ => hj) 
  have HF2 := hid hf2
  have HG2 := hid (show w2.heap[w.heap.size]? = some (.cells g16 34 (0, 0)) from (hf.block _ (lt_of_heap HG1.out) (by omega)).trans HG1.out)
  clear hf hf2 HC HG1 HW HB1
  by_cases hl : r.length < 16
  · rw [if_pos hl] at he
    subst he
    refine ⟨rfl, HF2.out, ?_⟩
    rw [if_pos hl]
    rfl
  · rw [if_neg hl] at he
    obtain ⟨b, o, c, rfl, hR, hB, hc1, hc2⟩ := he
    have HR := hid hR
    have HL := hid (show (r.take 16).length = 16 by simp; omega)
    have HA := hid (show AtL w2 b o (u8s (r.take 16)).toList by have := hB.cells b o rfl; simpa [u8s, u8l] using this)
    have HNL := hid hl
    clear hR hB hl
    have hAA := fun W => arrAt b o c W
    go_wp2_with (first
      | ((with_reducible refine at_op ⟨some 6, _, _, _, _, _⟩ ?_); refine wpList_run rfl _ (load_id rfl rfl HA.out HL.out) ?_)
      | ((with_reducible refine at_op ⟨none, .store 34 (.tmp 2) (.tmp 6), _, _, _, _⟩ ?_); refine wpList_store_row rfl 34 _ _ rfl w.heap.size (u8s (r.take 16)) rfl rfl 34 g16 HG2.out (by rw [u8s_size, HL.out]; exact size28) (by rw [u8s_size, HL.out]; rfl) (u8s_one _) ?_)
      | fail)
    have hz : (w2.setRow w.heap.size (u8s (r.take 16))).heap[w.heap.size]? = some (.cells (u8s (r.take 16)) 34 (0, 0)) := setRow_heap _ _ _ _ _ _ HG2.out
    have hfb : Below w2.heap.size w2 w2 := Below.refl _ _
    have hr : Fr (fun j => j = w.heap.size) w2 (w2.setRow w.heap.size (u8s (r.take 16))) := fr_row (Fr.refl _ _) _ _ (fun _ => rfl)
    refine bodyPost_ret (v := .agg (u8s (r.take 16))) ?_ rfl ?_
    · rw [results_cell1 (fn := Tryd.f59) rfl]
      simp only [Act.put, List.setIfInBounds_toArray, List.set_cons_zero, List.set_cons_succ]
      have hl := run_loadVar_row (P := Tryd.prog) _ w.heap.size 34 34 (u8s (r.take 16)) (0, 0) _ hz Tryd.underlying34 rfl (by rw [u8s_size, HL.out]; exact size28)
      simp [asAddr, hl, Result.andThen]
    · refine ⟨HF2.out.trans hr (fun j hj hlt => by omega), ?_⟩
      rw [if_neg HNL.out]
      exact ⟨rfl, HR.out.fr hr (by omega)⟩
end Go.Proofs.YtgfimkeopohjaaaDoor

namespace Go.Proofs.YtgfimkeopohjaaaDoor
open Go Go.ChangeShapes Go.WideShapes Go.ChangeAt Go.RowKit

set_option maxRecDepth 100000 in
theorem or32 {lo hi : Int} {k : Nat} (h0 : 0 ≤ lo) (h1 : lo < 2 ^ k) (h2 : 0 ≤ hi) (h3 : lo + hi * 2 ^ k < 4294967296) : bits .or .u32 lo (hi * 2 ^ k) = lo + hi * 2 ^ k := by
  obtain ⟨a, rfl⟩ := Int.eq_ofNat_of_zero_le h0
  obtain ⟨b, rfl⟩ := Int.eq_ofNat_of_zero_le h2
  have h3' : a + b * 2 ^ k < 4294967296 := by
    have h : ((a + b * 2 ^ k : Nat) : Int) < 4294967296 := by rw [Int.natCast_add, Int.natCast_mul, Int.natCast_pow]; exact h3
    generalize a + b * 2 ^ k = m at h
    omega
  have h1' : a < 2 ^ k := by exact_mod_cast h1
  have e : ((b : Int) * 2 ^ k) = ((b * 2 ^ k : Nat) : Int) := by rw [Int.natCast_mul, Int.natCast_pow]; rfl
  have h4 : a < 4294967296 := Nat.lt_of_le_of_lt (Nat.le_add_right _ _) h3'
  have h5 : b * 2 ^ k < 4294967296 := Nat.lt_of_le_of_lt (Nat.le_add_left _ _) h3'
  rw [e, u32_or_nat a (b * 2 ^ k) h4 h5, Nat.or_comm, or_add b a k h1', Nat.add_comm, Int.natCast_add]
theorem i32_sgn {v : Int} (h0 : 0 ≤ v) (h1 : v < 4294967296) : IntKind.i32.wrap v = sgn v := by
  rw [IntKind.wrap_i32]
  unfold sgn
  split <;> omega
def OpP (w : World) (rb : Nat) (r : List Int) (e : Ending) (w' : World) : Prop :=
  Fr (fun j => j = rb) w w' ∧ match r with
    | a0 :: a1 :: a2 :: a3 :: r' => e = .returned (.int .i64 (sgn (a0 + 256 * a1 + 65536 * a2 + 16777216 * a3))) ∧ Rd w' rb r'
    | _ => e = gaveUp
set_option maxRecDepth 100000 in
theorem operandR_any (w : World) (rb : Nat) (r : List Int) (h : Rd w rb r) :
    Calls Tryd.prog 72 #[.pointer (some ⟨rb, 0, none⟩)] w (OpP w rb r) := by
  have HC := hid (bytes_any w rb r 4 (by omega) (by omega) h)
  have HBY := hid h.by_
  clear h
  by_cases hl : r.length < 4
  · have HL := hid hl
    clear hl
    go_enter Tryd.func72, Tryd.ntmps72
    go_wp2_with fail
    refine HC.out.mono ?_
    rintro e w2 ⟨hf, he⟩
    rw [if_pos HL.out] at he
    subst he
    refine ⟨rfl, hf, ?_⟩
    have := HL.out
    match r, this with
    | [], _ => rfl
    | [_], _ => rfl
    | [_, _], _ => rfl
    | [_, _, _], _ => rfl
  · obtain ⟨a0, a1, a2, a3, r, rfl⟩ : ∃ a0 a1 a2 a3 r', r = a0 :: a1 :: a2 :: a3 :: r' := by
      match r, hl with
      | a0 :: a1 :: a2 :: a3 :: r', _ => exact ⟨a0, a1, a2, a3, r', rfl⟩
      | [], h => exact absurd (by simp) h
      | [_], h => exact absurd (by simp) h
      | [_, _], h => exact absurd (by simp) h
      | [_, _, _], h => exact absurd (by simp) h
    have x0 := HBY.out a0 (by simp)
    have x1 := HBY.out a1 (by simp)
    have x2 := HBY.out a2 (by simp)
    have x3 := HBY.out a3 (by simp)
    have wx0 : IntKind.u32.wrap a0 = a0 := IntWalk.u32_in _ (by omega)
    have wx1 : IntKind.u32.wrap a1 = a1 := IntWalk.u32_in _ (by omega)
    have wx2 : IntKind.u32.wrap a2 = a2 := IntWalk.u32_in _ (by omega)
    have wx3 : IntKind.u32.wrap a3 = a3 := IntWalk.u32_in _ (by omega)
    clear hl
    go_enter Tryd.func72, Tryd.ntmps72
    go_wp2_with fail
    refine HC.out.mono ?_
    rintro e w2 ⟨hf, he⟩
    rw [if_neg (by simp)] at he
    obtain ⟨b, o, c, rfl, hR, hB, hc1, hc2⟩ := he
    have HR := hid hR
    have HF := hid hf
    have c0 : w2.cell? ⟨b, o, none⟩ = some (.int .u8 a0) := by have := hB.cell (j := 0) (by simp); simpa using this
    have c1 : w2.cell? ⟨b, o + 1, none⟩ = some (.int .u8 a1) := by have := hB.cell (j := 1) (by simp); simpa using this
    have c2 : w2.cell? ⟨b, o + 2, none⟩ = some (.int .u8 a2) := by have := hB.cell (j := 2) (by simp); simpa using this
    have c3 : w2.cell? ⟨b, o + 3, none⟩ = some (.int .u8 a3) := by have := hB.cell (j := 3) (by simp); simpa using this
    clear hR hf hB HC
    go_upto_region 2 with (fail)
    go_quiet (fail)
    have y1 : bits .or .u32 a0 (a1 * 256) = a0 + a1 * 256 := or32 (k := 8) (by omega) (by omega) (by omega) (by omega)
    have y2 : bits .or .u32 (a0 + a1 * 256) (a2 * 65536) = a0 + a1 * 256 + a2 * 65536 := or32 (k := 16) (by omega) (by omega) (by omega) (by omega)
    have y3 : bits .or .u32 (a0 + a1 * 256 + a2 * 65536) (a3 * 16777216) = a0 + a1 * 256 + a2 * 65536 + a3 * 16777216 := or32 (k := 24) (by omega) (by omega) (by omega) (by omega)
    rw [y1, y2, y3]
    have hv : a0 + a1 * 256 + a2 * 65536 + a3 * 16777216 = a0 + 256 * a1 + 65536 * a2 + 16777216 * a3 := by omega
    rw [hv]
    obtain ⟨v, hvv⟩ : ∃ v, v = a0 + 256 * a1 + 65536 * a2 + 16777216 * a3 := ⟨_, rfl⟩
    have hb1 : 0 ≤ v ∧ v < 4294967296 := by omega
    rw [← hvv]
    have HV := hid hvv
    have z1 : IntKind.i32.wrap v = sgn v := i32_sgn hb1.1 hb1.2
    have z2 : IntKind.i64.wrap (sgn v) = sgn v := IntWalk.i64_in _ (by unfold sgn; split <;> omega)
    clear y1 y2 y3 hv hvv hb1 x0 x1 x2 x3 wx0 wx1 wx2 wx3 c0 c1 c2 c3
    go_wp2
    go_ret
    exact ⟨HF.out.drewN _, by rw [← HV.out]; rfl, HR.out.on (below_drewN (Below.refl _ _) _)⟩
end Go.Proofs.YtgfimkeopohjaaaDoor

namespace Go.Proofs.YtgfimkeopohjaaaDoor
open Go Go.ChangeShapes Go.WideShapes Go.ChangeAt Go.RowKit

/-- What one that reads tells. -/
def RdP {α : Type} (w : World) (rb : Nat) (r : List Int) (rd : List Int → Option (α × List Int)) (Z : (Nat → Prop) → World → α → Value → Prop) (e : Ending) (w' : World) : Prop :=
  Fr (fun j => j = rb) w w' ∧ match rd r with
    | none => e = gaveUp
    | some (x, r') => ∃ v, e = .returned v ∧ Z (fun b => w.heap.size ≤ b ∧ b < w'.heap.size) w' x v ∧ Rd w' rb r'
theorem RdP.no {α : Type} {w w' : World} {rb : Nat} {r : List Int} {rd : List Int → Option (α × List Int)} {Z : (Nat → Prop) → World → α → Value → Prop} (hf : Fr (fun j => j = rb) w w') (h : rd r = none) : RdP w rb r rd Z gaveUp w' := by
  refine ⟨hf, ?_⟩
  rw [h]
theorem RdP.yes {α : Type} {w w' : World} {rb : Nat} {r r' : List Int} {x : α} {v : Value} {rd : List Int → Option (α × List Int)} {Z : (Nat → Prop) → World → α → Value → Prop} (hf : Fr (fun j => j = rb) w w') (h : rd r = some (x, r')) (hz : Z (fun b => w.heap.size ≤ b ∧ b < w'.heap.size) w' x v) (hr : Rd w' rb r') : RdP w rb r rd Z (.returned v) w' := by
  refine ⟨hf, ?_⟩
  rw [h]
  exact ⟨v, rfl, hz, hr⟩
theorem frt {rb : Nat} {a b c : World} (h : Fr (fun j => j = rb) a b) (k : Fr (fun j => j = rb) b c) : Fr (fun j => j = rb) a c := h.trans k (fun _ hj _ => hj)
theorem frb {rb : Nat} {a b c : World} (h : Fr (fun j => j = rb) a b) (k : Below b.heap.size b c) : Fr (fun j => j = rb) a c := h.trans (Fr.of_below (fp := fun _ => False) k) (fun _ hj _ => hj.elim)
theorem keepB {rb g : Nat} {a b : World} {x : Obj} (h : Fr (fun j => j = rb) a b) (hg : a.heap[g]? = some x) (hn : g ≠ rb) : b.heap[g]? = some x := (h.block g (lt_of_heap hg) hn).trans hg
def ZIns (_ : Nat → Prop) (_ : World) (x : Ins) (v : Value) : Prop := v = .agg (insA x) ∧ InsOk x
def zIns : Array Value := #[.int .i64 0, .int .i64 0, .int .i64 0]
set_option maxRecDepth 100000 in
theorem sizeIns (x : Ins) : (Tryd.prog.info? 61).map (·.size) = some (insA x).size := by
  show _ = some 3
  kernel_rfl
theorem oneIns (x : Ins) : (insA x).all (·.oneCell') = true := by simp [insA, insc, Value.oneCell']
theorem ins_ok {x : Ins} (h : InE x) : InsOk x := by
  obtain ⟨h1, h2, h3⟩ := h
  exact ⟨by simp only [J64]; omega, by simp only [J64]; omega, by simp only [J64]; omega⟩
set_option maxRecDepth 100000 in
set_option maxHeartbeats 1000000 in
theorem readInstr_any (w : World) (rb : Nat) (r : List Int) (h : Rd w rb r) :
    Calls Tryd.prog 69 #[.pointer (some ⟨rb, 0, none⟩)] w (RdP w rb r rdI ZIns) := by
  obtain ⟨w1, hw1⟩ : ∃ w1, w1 = w.alloc (.cells zIns 61) := ⟨_, rfl⟩
  have hb1 : Below w.heap.size w w1 := by rw [hw1]; exact (Below.refl _ _).alloc (Nat.le_refl _) _
  have hg1 : w1.heap[w.heap.size]? = some (.cells zIns 61 (0, 0)) := by rw [hw1]; exact heap_alloc_new _ _
  have HR1 := hid (h.on hb1)
  have HBY := hid h.by_
  have HF1 := hid (frb (Fr.refl (fun j => j = rb) w) hb1)
  have HG1 := hid hg1
  have HW := hid hw1
  have hlt := h.lt
  have hne : w.heap.size ≠ rb := by omega
  clear h hb1 hg1 hw1
  go_enter Tryd.func69, Tryd.ntmps69
  go_upto_region 1 with (fail)
  change Code.wp _ _ _ _ (w.alloc (.cells zIns 61))
  rw [← HW.out]
  clear HW
  go_wp2_with fail
  refine (number_any w1 rb r HR1.out).mono ?_
  rintro e w2 ⟨hf, he⟩
  have HF2 := hid (frt HF1.out hf)
  have HG2 := hid (keepB hf HG1.out hne)
  clear hf HR1 HF1 HG1
  cases r with
  | nil =>
    subst he
    exact ⟨rfl, RdP.no HF2.out rfl⟩
  | cons op r =>
  obtain ⟨rfl, hR⟩ := he
  have HR2 := hid hR
  clear hR
  go_wp2_with fail
  refine (number_any w2 rb r HR2.out).mono ?_
  rintro e w3 ⟨hf, he⟩
  have HF3 := hid (frt HF2.out hf)
  have HG3 := hid (keepB hf HG2.out hne)
  clear hf HR2 HF2 HG2
  cases r with
  | nil =>
    subst he
    exact ⟨rfl, RdP.no HF3.out rfl⟩
  | cons b r =>
  obtain ⟨rfl, hR⟩ := he
  have HR3 := hid hR
  clear hR
  go_wp2_with fail
  refine (operandR_any w3 rb r HR3.out).mono ?_
  rintro e w4 ⟨hf, he⟩
  have HF4 := hid (frt HF3.out hf)
  have HG4 := hid (keepB hf HG3.out hne)
  clear hf HR3 HF3 HG3
  by_cases hl : r.length < 4
  · have HN := hid (show rdI (op :: b :: r) = none by
      match r, hl with
      | [], _ => rfl
      | [_], _ => rfl
      | [_, _], _ => rfl
      | [_, _, _], _ => rfl)
    have he' : e = gaveUp := by
      match r, hl, he with
      | [], _, he => exact he
      | [_], _, he => exact he
      | [_, _], _, he => exact he
      | [_, _, _], _, he => exact he
    subst he'
    exact ⟨rfl, RdP.no HF4.out HN.out⟩
  obtain ⟨a0, a1, a2, a3, r, rfl⟩ : ∃ a0 a1 a2 a3 r', r = a0 :: a1 :: a2 :: a3 :: r' := by
    match r, hl with
    | a0 :: a1 :: a2 :: a3 :: r', _ => exact ⟨a0, a1, a2, a3, r', rfl⟩
    | [], h => exact absurd (by simp) h
    | [_], h => exact absurd (by simp) h
    | [_, _], h => exact absurd (by simp) h
    | [_, _, _], h => exact absurd (by simp) h
  obtain ⟨rfl, hR⟩ := he
  have HRI := hid (show rdI (op :: b :: a0 :: a1 :: a2 :: a3 :: r) = some (⟨op, sgn (a0 + 256 * a1 + 65536 * a2 + 16777216 * a3), b⟩, r) from rfl)
  have HOK := hid (ins_ok (rdI_bwd _ _ _ HBY.out HRI.out).2)
  obtain ⟨v, hv⟩ : ∃ v, v = sgn (a0 + 256 * a1 + 65536 * a2 + 16777216 * a3) := ⟨_, rfl⟩
  rw [← hv] at HRI HOK ⊢
  have HR4 := hid hR
  clear hR hl hv
  go_wp2_with (first
    | ((with_reducible refine at_op ⟨none, .store 61 (.tmp 2) (.tmp 9), _, _, _, _⟩ ?_); refine wpList_store_row rfl 61 _ _ rfl w.heap.size (insA ⟨op, v, b⟩) rfl rfl 61 zIns HG4.out (sizeIns _) rfl (oneIns _) ?_)
    | fail)
  have hz : (w4.setRow w.heap.size (insA ⟨op, v, b⟩)).heap[w.heap.size]? = some (.cells (insA ⟨op, v, b⟩) 61 (0, 0)) := setRow_heap _ _ _ _ _ _ HG4.out
  have hr : Fr (fun j => j = w.heap.size) w4 (w4.setRow w.heap.size (insA ⟨op, v, b⟩)) := fr_row (Fr.refl _ _) _ _ (fun _ => rfl)
  refine bodyPost_ret (v := .agg (insA ⟨op, v, b⟩)) ?_ rfl ?_
  · rw [results_cell1 (fn := Tryd.f69) rfl]
    simp only [Act.put]
    have hl := run_loadVar_row (P := Tryd.prog) _ w.heap.size 61 61 (insA ⟨op, v, b⟩) (0, 0) _ hz Tryd.underlying61 rfl (sizeIns _)
    simp [asAddr, hl, Result.andThen]
  · exact RdP.yes (HF4.out.trans hr (fun j hj hlt => by omega)) HRI.out ⟨rfl, HOK.out⟩ (HR4.out.fr hr (by omega))
end Go.Proofs.YtgfimkeopohjaaaDoor

namespace Go.Proofs.YtgfimkeopohjaaaDoor
open Go Go.ChangeShapes Go.WideShapes Go.ChangeAt Go.RowKit

def ZFac (_ : Nat → Prop) (_ : World) (f : Face) (v : Value) : Prop := v = .agg (fcl f).toArray ∧ f.id.length = 16 ∧ I64 f.base
def zFac : Array Value := (fcl ⟨List.replicate 16 0, 0⟩).toArray
set_option maxRecDepth 100000 in
theorem sizeFac {f : Face} (h : f.id.length = 16) : (Tryd.prog.info? 74).map (·.size) = some (fcl f).toArray.size := by
  rw [List.size_toArray, fcl_len h]
  kernel_rfl
theorem zFac_size {f : Face} (h : f.id.length = 16) : zFac.size = (fcl f).toArray.size := by
  have e : zFac.size = 17 := by rfl
  rw [e, List.size_toArray, fcl_len h]
theorem oneFac (f : Face) : (fcl f).toArray.all (·.oneCell') = true := all_oneCell_toArray (fcl_oneD f)
set_option maxRecDepth 100000 in
set_option maxHeartbeats 1000000 in
theorem readFace_any (w : World) (rb : Nat) (r : List Int) (h : Rd w rb r) :
    Calls Tryd.prog 61 #[.pointer (some ⟨rb, 0, none⟩)] w (RdP w rb r rdF ZFac) := by
  obtain ⟨w1, hw1⟩ : ∃ w1, w1 = w.alloc (.cells zFac 74) := ⟨_, rfl⟩
  have hb1 : Below w.heap.size w w1 := by rw [hw1]; exact (Below.refl _ _).alloc (Nat.le_refl _) _
  have hg1 : w1.heap[w.heap.size]? = some (.cells zFac 74 (0, 0)) := by rw [hw1]; exact heap_alloc_new _ _
  have HR1 := hid (h.on hb1)
  have HBY := hid h.by_
  have HF1 := hid (frb (Fr.refl (fun j => j = rb) w) hb1)
  have HG1 := hid hg1
  have HW := hid hw1
  have hlt := h.lt
  have hne : w.heap.size ≠ rb := by omega
  clear h hb1 hg1 hw1
  go_enter Tryd.func61, Tryd.ntmps61
  go_upto_region 1 with (fail)
  change Code.wp _ _ _ _ (w.alloc (.cells zFac 74))
  rw [← HW.out]
  clear HW
  go_wp2_with fail
  refine (id_any w1 rb r HR1.out).mono ?_
  rintro e w2 ⟨hf, he⟩
  have HF2 := hid (frt HF1.out hf)
  have HG2 := hid (keepB hf HG1.out hne)
  clear hf HR1 HF1 HG1
  by_cases hl : r.length < 16
  · rw [if_pos hl] at he
    subst he
    exact ⟨rfl, RdP.no HF2.out (by unfold rdF; rw [if_pos hl])⟩
  rw [if_neg hl] at he
  obtain ⟨rfl, hR⟩ := he
  have HR2 := hid hR
  have hli : (r.take 16).length = 16 := by simp; omega
  have hrd : rdF r = match r.drop 16 with
    | [] => none
    | x :: r' => some (⟨r.take 16, x - 1⟩, r') := by unfold rdF; rw [if_neg hl]; rfl
  obtain ⟨g, hg⟩ : ∃ g, g = r.take 16 := ⟨_, rfl⟩
  obtain ⟨r1, hr1⟩ : ∃ g, g = r.drop 16 := ⟨_, rfl⟩
  rw [← hg] at hrd hli ⊢
  rw [← hr1] at hrd HR2
  have HRD := hid hrd
  have HLI := hid hli
  clear hR hrd hli hl hg hr1
  go_wp2_with fail
  refine (number_any w2 rb r1 HR2.out).mono ?_
  rintro e w3 ⟨hf, he⟩
  have HF3 := hid (frt HF2.out hf)
  have HG3 := hid (keepB hf HG2.out hne)
  clear hf HF2 HG2
  cases r1 with
  | nil =>
    subst he
    exact ⟨rfl, RdP.no HF3.out HRD.out⟩
  | cons x r1 =>
  obtain ⟨rfl, hR⟩ := he
  have HR3 := hid hR
  have hx := HR2.out.by_ x (by simp)
  have wx : IntKind.i64.wrap (x - 1) = x - 1 := IntWalk.i64_in _ (by omega)
  have HOK := hid (show I64 (x - 1) by simp only [I64]; omega)
  clear hR HR2
  obtain ⟨f, hf⟩ : ∃ f : Face, f = ⟨g, x - 1⟩ := ⟨_, rfl⟩
  have HF := hid hf
  have HFI := hid (show f.id.length = 16 by rw [hf]; exact HLI.out)
  clear hf
  go_wp2_with (first
    | ((with_reducible refine at_op ⟨some 8, _, _, _, _, _⟩ ?_); refine wpList_runW rfl (.agg (fcl f).toArray) (by rw [HF.out]; exact exec_buildF rfl rfl rfl HLI.out) ?_)
    | ((with_reducible refine at_op ⟨none, .store 74 (.tmp 2) (.tmp 8), _, _, _, _⟩ ?_); refine wpList_store_row rfl 74 _ _ rfl w.heap.size (fcl f).toArray rfl rfl 74 zFac HG3.out (sizeFac HFI.out) (zFac_size HFI.out) (oneFac _) ?_)
    | fail)
  have hz : (w3.setRow w.heap.size (fcl f).toArray).heap[w.heap.size]? = some (.cells (fcl f).toArray 74 (0, 0)) := setRow_heap _ _ _ _ _ _ HG3.out
  have hr : Fr (fun j => j = w.heap.size) w3 (w3.setRow w.heap.size (fcl f).toArray) := fr_row (Fr.refl _ _) _ _ (fun _ => rfl)
  refine bodyPost_ret (v := .agg (fcl f).toArray) ?_ rfl ?_
  · rw [results_cell1 (fn := Tryd.f61) rfl]
    simp only [Act.put]
    have hl := run_loadVar_row (P := Tryd.prog) _ w.heap.size 74 74 (fcl f).toArray (0, 0) _ hz Tryd.underlying74 rfl (sizeFac HFI.out)
    simp [asAddr, hl, Result.andThen]
  · exact RdP.yes (HF3.out.trans hr (fun j hj hlt => by omega)) (by rw [HRD.out, HF.out]) ⟨rfl, HFI.out, by rw [HF.out]; exact HOK.out⟩ (HR3.out.fr hr (by omega))
end Go.Proofs.YtgfimkeopohjaaaDoor

namespace Go.Proofs.YtgfimkeopohjaaaDoor
open Go Go.ChangeShapes Go.WideShapes Go.ChangeAt Go.RowKit

/-- What a kind of element asks for. -/
structure Kind {α : Type} (k : Nat) (Z : (Nat → Prop) → World → α → Value → Prop) : Prop where
  kept : ∀ {S : Nat → Prop} {W W' : World} {x : α} {v : Value}, Z S W x v → (∀ b, S b → W'.heap[b]? = W.heap[b]?) → W.heap.size ≤ W'.heap.size → Z S W' x v
  mono : ∀ {S S' : Nat → Prop} {W : World} {x : α} {v : Value}, Z S W x v → (∀ b, S b → S' b) → Z S' W x v
  size : ∀ {S : Nat → Prop} {W : World} {x : α} {v : Value}, Z S W x v → v.cells.size = k
/-- n places of k cells each in a block of its own; the first ones are filled. -/
structure Fil {α : Type} (k : Nat) (Z : (Nat → Prop) → World → α → Value → Prop) (base g n : Nat) (W : World) (l : List α) : Prop where
  lt : g < W.heap.size
  ge : base ≤ g
  th : W.there g 0 (n * k)
  el : ∀ (i : Nat) x, l[i]? = some x → ∃ v, AtL W g (i * k) v.cells.toList ∧ Z (fun b => base ≤ b ∧ b < W.heap.size ∧ b ≠ g) W x v
section
variable {α : Type} {k base g n rb : Nat} {Z : (Nat → Prop) → World → α → Value → Prop} {W W' : World} {l : List α}
theorem Fil.fr (hK : Kind k Z) (h : Fil k Z base g n W l) (hf : Fr (fun j => j = rb) W W') (hb : rb < base) : Fil k Z base g n W' l := by
  have hg : W'.heap[g]? = W.heap[g]? := hf.block g h.lt (by have := h.ge; omega)
  refine ⟨Nat.lt_of_lt_of_le h.lt hf.size, h.ge, fun j hj => ?_, fun i x hx => ?_⟩
  · have := h.th j hj
    rw [World.cell?_of_block (w := W) (w' := W') (a := ⟨g, 0 + j, none⟩) hg]
    refine ⟨this.1, ?_⟩
    have h2 := this.2
    unfold World.frozen? at h2 ⊢
    rw [show W'.heap[(⟨g, 0 + j, none⟩ : Addr).block]? = W.heap[(⟨g, 0 + j, none⟩ : Addr).block]? from hg]
    exact h2
  · obtain ⟨v, h1, h2⟩ := h.el i x hx
    refine ⟨v, fun j u hu => (World.cell?_of_block (w := W) (w' := W') (a := ⟨g, i * k + j, none⟩) hg).trans (h1 j u hu), ?_⟩
    exact hK.mono (hK.kept h2 (fun b hb2 => hf.block b hb2.2.1 (by omega)) hf.size) fun b hb2 => ⟨hb2.1, Nat.lt_of_lt_of_le hb2.2.1 hf.size, hb2.2.2⟩
theorem Fil.put (hK : Kind k Z) (h : Fil k Z base g n W l) {x : α} {v : Value} (hx : Z (fun b => base ≤ b ∧ b < W.heap.size ∧ b ≠ g) W x v) (hl : l.length < n) : Fil k Z base g n (W.setCells g (l.length * k) v.cells.toList) (l ++ [x]) := by
  have hfr : Fr (fun j => j = g) W (W.setCells g (l.length * k) v.cells.toList) := fr_cells (fp := fun j => j = g) (fun _ => rfl) _ _ _ (Fr.refl (fun j => j = g) W)
  have hvs : v.cells.toList.length = k := by rw [Array.length_toList]; exact hK.size hx
  have hlk : l.length * k + k ≤ n * k := by rw [← Nat.succ_mul]; exact Nat.mul_le_mul_right k hl
  have hz : ∀ {y : α} {u : Value}, Z (fun b => base ≤ b ∧ b < W.heap.size ∧ b ≠ g) W y u → Z (fun b => base ≤ b ∧ b < (W.setCells g (l.length * k) v.cells.toList).heap.size ∧ b ≠ g) (W.setCells g (l.length * k) v.cells.toList) y u := fun hy =>
    hK.mono (hK.kept hy (fun b hb2 => hfr.block b hb2.2.1 hb2.2.2) hfr.size) fun b hb2 => ⟨hb2.1, Nat.lt_of_lt_of_le hb2.2.1 hfr.size, hb2.2.2⟩
  refine ⟨Nat.lt_of_lt_of_le h.lt hfr.size, h.ge, World.there_setCells h.th g _ _, fun i y hy => ?_⟩
  by_cases hi : i < l.length
  · rw [List.getElem?_append_left hi] at hy
    obtain ⟨u, h1, h2⟩ := h.el i y hy
    have hus : u.cells.toList.length = k := by rw [Array.length_toList]; exact hK.size h2
    refine ⟨u, World.rangeAt_setCells_apart (w := W) (b' := g) (o' := i * k) h1 g (l.length * k) v.cells.toList (.inr (.inl ?_)), hz h2⟩
    rw [hus, ← Nat.succ_mul]
    exact Nat.mul_le_mul_right k hi
  · rw [List.getElem?_append_right (by omega)] at hy
    have hi0 : i - l.length = 0 := by
      have := (List.getElem?_eq_some_iff.1 hy).1
      simp at this; omega
    rw [hi0] at hy
    simp only [List.getElem?_cons_zero, Option.some.injEq] at hy
    subst hy
    have hil : i = l.length := by omega
    subst hil
    refine ⟨v, World.rangeAt_setCells_same W g _ _ (fun j hj => ?_), hz hx⟩
    have := h.th (l.length * k + j) (by omega)
    simpa using this
end
/-- Nothing is filled yet. -/
theorem fil_new {α : Type} {k n : Nat} {Z : (Nat → Prop) → World → α → Value → Prop} {w W : World} {e : TypeId} (cs : Array Value) (hc : cs.size = n * k) (hb : w.heap.size ≤ W.heap.size) : Fil k Z w.heap.size W.heap.size n (W.alloc (.cells cs e)) ([] : List α) := by
  refine ⟨by simp, hb, fun j hj => ?_, fun i x hx => by simp at hx⟩
  have hg := heap_alloc_new W (.cells cs e)
  obtain ⟨W2, hW2⟩ : ∃ W2, W2 = W.alloc (.cells cs e) := ⟨_, rfl⟩
  rw [← hW2] at hg ⊢
  refine ⟨?_, ?_⟩
  · simp [World.cell?, hg, hc, hj]
  · simp [World.frozen?, hg]
/-- A slice that was filled. -/
def ZL {α : Type} (k : Nat) (Z : (Nat → Prop) → World → α → Value → Prop) (S : Nat → Prop) (W : World) (l : List α) (v : Value) : Prop :=
  ∃ base g, v = .slice (some ⟨g, 0, none⟩) l.length l.length ∧ Fil k Z base g l.length W l ∧ (∀ b, base ≤ b → b < W.heap.size → S b) ∧ l.length ≤ 255
/-- make, of any element. -/
theorem exec_makeL {P : Program} {o : Oper} {f : Operand → Value} {W : World} {p : Operand} {st e : TypeId} {k n bytes : Nat} {z : Value} (hu : P.underlying st = some (.slice e)) (hinfo : (P.info? e).map (fun i => (i.zero, i.size, i.bytes)) = some (some z, k, bytes)) (hn : n ≤ 255) (hb : bytes ≤ 1000)
    (ho : o.op = .makeSlice st p p) (hp : f p = .int .i64 (n : Int)) :
    (execOp f o).run P W = .ok (.value (.slice (some ⟨W.heap.size, 0, none⟩) n n)) (W.alloc (.cells (madeCells z.cells (n * k)) e)) := by
  obtain ⟨i, hi, hz⟩ := Option.map_eq_some_iff.1 hinfo
  simp only [Prod.mk.injEq] at hz
  obtain ⟨h1, h2, h3⟩ := hz
  have hbn : bytes * n ≤ 1000 * 255 := Nat.mul_le_mul hb hn
  have hbn' : (bytes : Int) * (n : Int) ≤ 281474976710656 := by
    have : ((bytes * n : Nat) : Int) ≤ 281474976710656 := by omega
    rwa [Int.natCast_mul] at this
  have hr := run_make (P := P) W st e i z hu hi h1 .i64 .i64 n n (by omega) (Int.le_refl _) (by rw [h3]; exact hbn') (by omega)
  simp only [Int.toNat_natCast, h2] at hr
  unfold execOp
  simp only [ho, hp, Sem.run_bind, hr, Result.andThen_ok, Sem.run_pure]
theorem RdP.open {α : Type} {w w' : World} {rb : Nat} {r : List Int} {rd : List Int → Option (α × List Int)} {Z : (Nat → Prop) → World → α → Value → Prop} {e : Ending} (h : RdP w rb r rd Z e w') : Fr (fun j => j = rb) w w' ∧ ((rd r = none ∧ e = gaveUp) ∨ ∃ x r' v, rd r = some (x, r') ∧ e = .returned v ∧ Z (fun b => w.heap.size ≤ b ∧ b < w'.heap.size) w' x v ∧ Rd w' rb r') := by
  refine ⟨h.1, ?_⟩
  have he := h.2
  cases hrd : rd r with
  | none =>
    rw [hrd] at he
    exact .inl ⟨rfl, he⟩
  | some p =>
    obtain ⟨x, r'⟩ := p
    rw [hrd] at he
    obtain ⟨v, h1, h2, h3⟩ := he
    exact .inr ⟨x, r', v, rfl, h1, h2, h3⟩
theorem made_size (z : Value) (m : Nat) : (madeCells z.cells m).size = m := size_madeCells _ _
end Go.Proofs.YtgfimkeopohjaaaDoor
