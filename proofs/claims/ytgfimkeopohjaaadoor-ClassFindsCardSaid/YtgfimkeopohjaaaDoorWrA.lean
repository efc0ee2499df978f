/-
  Bytes in memory: views that may be read, rows of the call's own.
-/
import Derived.Test.YtgfimkeopohjaaaDoorChecked
import Derived.Test.YtgfimkeopohjaaaDoorWrM
import Derived.Test.YtgfimkeopohjaaaDoorRng
import Derived.Test.YtgfimkeopohjaaaDoorLibB
import Derived.Test.YtgfimkeopohjaaaDoorPick
import Derived.Maps.AppendAt
import Derived.Laws.AppendOwnNone
namespace Go.Proofs.YtgfimkeopohjaaaDoor
open Go Go.ChangeShapes Go.WideShapes Go.ChangeAt Go.RowKit


/-- Bytes in memory, their block below B. -/
structure Bs (w : World) (B : Nat) (ad : Option Addr) (xs : List Int) : Prop where
  some : 0 < xs.length → ∃ b o, ad = Option.some ⟨b, o, none⟩ ∧ b < B
  cells : ∀ (b o : Nat), ad = Option.some ⟨b, o, none⟩ → AtL w b o (u8l xs)
set_option maxRecDepth 100000 in
theorem u8l_at {xs : List Int} {j : Nat} (h : j < xs.length) : (u8l xs)[j]? = some (.int .u8 (xs.getD j 0)) := by simp [u8l, h]
set_option maxRecDepth 100000 in
theorem Bs.nil (w : World) (B : Nat) (ad : Option Addr) : Bs w B ad [] := ⟨fun h => absurd h (by simp), fun b o _ j v h => by simp [u8l] at h⟩
set_option maxRecDepth 100000 in
theorem Bs.cell {w : World} {B b o : Nat} {xs : List Int} (h : Bs w B (Option.some ⟨b, o, none⟩) xs) {j : Nat} (hj : j < xs.length) : w.cell? ⟨b, o + j, none⟩ = Option.some (.int .u8 (xs.getD j 0)) := h.cells b o rfl j _ (u8l_at hj)
set_option maxRecDepth 100000 in
theorem Bs.of_blocks {w w' : World} {B : Nat} {ad : Option Addr} {xs : List Int} (h : Bs w B ad xs) (hB : ∀ b o, ad = Option.some ⟨b, o, none⟩ → b < B → w'.heap[b]? = w.heap[b]?) : Bs w' B ad xs :=
  ⟨h.some, fun b o ha j v hv => by
    have hj : j < xs.length := by
      have := (List.getElem?_eq_some_iff.1 hv).1
      simpa [u8l] using this
    obtain ⟨b', o', h1, h2⟩ := h.some (by omega)
    rw [ha] at h1; cases h1
    exact (World.cell?_of_block (w := w) (w' := w') (a := ⟨b, o + j, none⟩) (hB b o ha h2)).trans (h.cells b o ha j v hv)⟩
set_option maxRecDepth 100000 in
theorem Bs.below {w w' : World} {B : Nat} {ad : Option Addr} {xs : List Int} (h : Bs w B ad xs) (hB : Below B w w') : Bs w' B ad xs := h.of_blocks fun b _ _ hb => hB.block b hb
set_option maxRecDepth 100000 in
theorem Bs.mono {w : World} {B B' : Nat} {ad : Option Addr} {xs : List Int} (h : Bs w B ad xs) (hB : B ≤ B') : Bs w B' ad xs :=
  ⟨fun hn => by obtain ⟨b, o, h1, h2⟩ := h.some hn; exact ⟨b, o, h1, Nat.lt_of_lt_of_le h2 hB⟩, h.cells⟩
set_option maxRecDepth 100000 in
theorem Bs.fr {w w' : World} {fp : Nat → Prop} {ad : Option Addr} {xs : List Int} (h : Bs w w.heap.size ad xs) (hf : Fr fp w w') (hn : ∀ b o, ad = Option.some ⟨b, o, none⟩ → ¬ fp b) : Bs w' w'.heap.size ad xs :=
  (h.of_blocks fun b o ha hb => hf.block b hb (hn b o ha)).mono hf.size
set_option maxRecDepth 100000 in
theorem Bs.drop {w : World} {B b o : Nat} {xs : List Int} (h : Bs w B (Option.some ⟨b, o, none⟩) xs) (n : Nat) : Bs w B (Option.some ⟨b, o + n, none⟩) (xs.drop n) :=
  ⟨fun hl => by
    obtain ⟨b', o', h1, h2⟩ := h.some (by simp at hl; omega)
    cases h1; exact ⟨b, o + n, rfl, h2⟩, fun b' o' he j v hv => by
    cases he
    have := h.cells b o rfl (n + j) v (by simpa [u8l, List.getElem?_drop] using hv)
    rw [Nat.add_assoc]; exact this⟩
set_option maxRecDepth 100000 in
theorem Bs.take {w : World} {B : Nat} {ad : Option Addr} {xs : List Int} (h : Bs w B ad xs) (n : Nat) : Bs w B ad (xs.take n) :=
  ⟨fun hl => h.some (by simp at hl; omega), fun b o he j v hv => h.cells b o he j v (by
    simp only [u8l, List.map_take] at hv ⊢
    rw [List.getElem?_take] at hv
    split at hv
    · exact hv
    · cases hv)⟩
set_option maxRecDepth 100000 in
/-- A row of the call's own, as bytes. -/
theorem own_bs {w : World} {B n cap : Nat} {ad : Option Addr} {xs : List Int} (h : w.ownsRow B 5 1 (.slice ad n cap) n (u8l xs)) : Bs w w.heap.size ad xs := by
  rcases h.2 with ⟨h1, h2⟩ | ⟨g, cap', cur, hv, hb, hg, hn, hm, hc, ht⟩
  · have : xs = [] := List.eq_nil_of_length_eq_zero (by have := h.1; rw [h2] at this; simpa [u8l] using this)
    subst this; exact Bs.nil _ _ _
  · cases hv
    have hl : xs.length = n := by simpa [u8l] using h.1
    refine ⟨fun _ => ⟨g, 0, rfl, (Array.getElem?_eq_some_iff.1 hg).1⟩, fun b o he j v hv => ?_⟩
    cases he
    have hj : j < xs.length := by
      have := (List.getElem?_eq_some_iff.1 hv).1
      simpa [u8l] using this
    rw [Nat.zero_add, h.cellAt j (by omega)]
    exact hv
set_option maxRecDepth 100000 in
theorem own_len {w : World} {B n : Nat} {v : Value} {xs : List Int} (h : w.ownsRow B 5 1 v n (u8l xs)) : xs.length = n := by simpa [u8l] using h.1

set_option maxRecDepth 100000 in
theorem div_pow_succ (n : Int) (k : Nat) : n / 256 ^ k / 256 = n / 256 ^ (k + 1) := by
  rw [Int.ediv_ediv_of_nonneg (Int.le_of_lt (Int.pow_pos (by omega))), Int.pow_succ]
set_option maxRecDepth 100000 in
theorem wrap_div256 {z : Int} (h0 : 0 ≤ z) (h1 : z ≤ 18446744073709551615) : IntKind.u64.wrap (z.tdiv 256) = z / 256 := by
  rw [Int.tdiv_eq_ediv_of_nonneg h0]
  exact IntWalk.u64_in _ ⟨by omega, by omega⟩
set_option maxRecDepth 100000 in
theorem getD_at {xs : List Int} {q : Nat} (h : q < xs.length) : xs[q]? = some (xs.getD q 0) := by simp [h]
set_option maxRecDepth 100000 in
theorem valL_take {xs : List Int} {q : Nat} {x : Int} (h : xs[q]? = some x) : valL (xs.take (q + 1)) = valL (xs.take q) + x * 256 ^ q := by
  have hq : q < xs.length := (List.getElem?_eq_some_iff.1 h).1
  rw [List.take_add_one, h, Option.toList_some, valL_app]
  congr 3
  simp; omega
set_option maxRecDepth 100000 in
theorem or_pow {v x : Int} {q : Nat} (hq : q < 8) (h0 : 0 ≤ v) (h1 : v < 256 ^ q) (hx0 : 0 ≤ x) (hx : x ≤ 255) : bits .or .u64 v (x * 256 ^ q) = v + x * 256 ^ q := by
  obtain ⟨a, rfl⟩ := Int.eq_ofNat_of_zero_le h0
  obtain ⟨b, rfl⟩ := Int.eq_ofNat_of_zero_le hx0
  have e1 : ((256 : Int) ^ q) = ((256 ^ q : Nat) : Int) := by rw [Int.natCast_pow]; rfl
  have hp : (256 : Nat) ^ q = 2 ^ (8 * q) := by rw [Nat.pow_mul]
  rw [e1] at h1 ⊢
  have h1' : a < 256 ^ q := by omega
  have hm : 256 ^ q ≤ 256 ^ 7 := Nat.pow_le_pow_right (by omega) (by omega)
  have h7 : (256 : Nat) ^ 7 = 72057594037927936 := by decide
  have hb : b * 256 ^ q ≤ 255 * 72057594037927936 := Nat.mul_le_mul (by omega) (by omega)
  have h2 := u64_or_nat a (b * 256 ^ q) (by omega) (by omega)
  have h3 : (a ||| b * 256 ^ q) = a + b * 256 ^ q := by
    rw [Nat.or_comm, hp, or_add b a (8 * q) (by rw [← hp]; exact h1'), Nat.add_comm]
  rw [h3] at h2
  simpa using h2
set_option maxRecDepth 100000 in
theorem shl_pow {x : Int} {q : Nat} (hq : q < 8) (hx0 : 0 ≤ x) (hx : x ≤ 255) : IntKind.u64.wrap (x * 256 ^ q) = x * 256 ^ q := by
  have hm : (256 : Nat) ^ q ≤ 256 ^ 7 := Nat.pow_le_pow_right (by omega) (by omega)
  have h7 : (256 : Nat) ^ 7 = 72057594037927936 := by decide
  have e1 : ((256 : Int) ^ q) = ((256 ^ q : Nat) : Int) := by rw [Int.natCast_pow]; rfl
  obtain ⟨b, rfl⟩ := Int.eq_ofNat_of_zero_le hx0
  have hb : b * 256 ^ q ≤ 255 * 72057594037927936 := Nat.mul_le_mul (by omega) (by omega)
  rw [e1]
  exact IntWalk.u64_in _ ⟨by omega, by have : ((b : Int) * ((256 ^ q : Nat) : Int)) = ((b * 256 ^ q : Nat) : Int) := by simp
                                       omega⟩
set_option maxRecDepth 100000 in
theorem getD_byt {xs : List Int} (h : Byt xs) (q : Nat) : 0 ≤ xs.getD q 0 ∧ xs.getD q 0 ≤ 255 := by
  by_cases hq : q < xs.length
  · exact h _ (List.mem_of_getElem? (getD_at hq))
  · simp [hq]
set_option maxRecDepth 100000 in
theorem pow8 (q : Nat) : (2 : Int) ^ (8 * q) = 256 ^ q := by
  rw [Int.pow_mul]; rfl
set_option maxRecDepth 100000 in
theorem info5 : (Tryd.prog.info? 5).map (fun i => (i.zero, i.size, i.bytes)) = some (some (.int .u8 0), 1, 1) := by kernel_rfl
def RowPost (w : World) (xs : List Int) (e : Ending) (w' : World) : Prop := ∃ v, e = .returned v ∧ w'.ownsRow w.heap.size 5 1 v xs.length (u8l xs) ∧ Below w.heap.size w w'
set_option maxRecDepth 100000 in
theorem u8l_one (xs : List Int) : ∀ u ∈ u8l xs, u.oneCell' = true := fun u hu => by
  simp only [u8l, List.mem_map] at hu
  obtain ⟨x, _, rfl⟩ := hu
  rfl
set_option maxRecDepth 100000 in
/-- Bytes, as cells from an address on. -/
theorem Bs.news {w : World} {B b o : Nat} {xs : List Int} (h : Bs w B (Option.some ⟨b, o, none⟩) xs) : ∀ j u, (u8l xs)[j]? = Option.some u → w.cell? ((⟨b, o, none⟩ : Addr).add j) = Option.some u := fun j u hu => by
  have h1 := h.cells b o rfl j u hu
  cases j with
  | zero => simpa [Addr.add] using h1
  | succ j => simpa [Addr.add] using h1
set_option maxRecDepth 100000 in
theorem u8l_app (xs ys : List Int) : u8l (xs ++ ys) = u8l xs ++ u8l ys := by simp [u8l]
set_option maxRecDepth 100000 in
theorem frA (w : World) (o : Obj) : Fr (fun _ => False) w (w.alloc o) := (Fr.refl _ w).alloc o
set_option maxRecDepth 100000 in
theorem own_form0 {w : World} {B : Nat} {e : TypeId} {k n : Nat} {v : Value} {xs : List Value} (h : w.ownsRow B e k v n xs) : ∃ a' k', v = .slice a' n k' ∧ (a' = none → k' = 0 ∧ n = 0) := by
  rcases h.2 with ⟨q1, q2⟩ | ⟨g, cap', _, q1, _⟩
  · exact ⟨none, 0, by rw [q1, q2], fun _ => ⟨rfl, q2⟩⟩
  · exact ⟨_, cap', q1, fun h => by cases h⟩

set_option maxRecDepth 100000 in
theorem u8l_nil : u8l [] = [] := rfl
set_option maxRecDepth 100000 in
/-- append to nothing: a copy. -/
theorem own_push {w0 W wa w5 : World} {v v5 : Value} {m : Nat} {xs zs : List Int} (hW : Below w0.heap.size w0 W) (hrow : W.ownsRow w0.heap.size 5 1 v xs.length (u8l xs)) (ha : Fr (fun _ => False) W wa) (hown : w5.ownsRow w0.heap.size 5 1 v5 m (u8l xs ++ u8l zs)) (hg : wa.grownBy w5 v.ownBlock) :
    w5.ownsRow w0.heap.size 5 1 v5 (xs ++ zs).length (u8l (xs ++ zs)) ∧ Below w0.heap.size w0 w5 := by
  have hm : m = (xs ++ zs).length := by
    have := hown.1
    simp only [List.length_append, u8l_len] at this
    simp; omega
  refine ⟨by rw [u8l_app, ← hm]; exact hown, ?_⟩
  have h1 : Below w0.heap.size w0 wa := ⟨ha.os.trans hW.os, ha.tape.trans hW.tape, ha.output.trans hW.output, Nat.le_trans hW.size ha.size, fun k hk => (ha.block k (Nat.lt_of_lt_of_le hk hW.size) (fun h => h)).trans (hW.block k hk)⟩
  exact h1.grown hg h1.size (fun k hk => (hrow.lt k hk).1)
set_option maxRecDepth 100000 in
theorem own_form1 {w : World} {B : Nat} {e : TypeId} {k n : Nat} {v : Value} {xs : List Value} (h : w.ownsRow B e k v n xs) (hn : 0 < n) : ∃ g cap, v = .slice (some ⟨g, 0, none⟩) n cap ∧ n ≤ cap ∧ cap ≤ 9223372036854775807 := by
  rcases h.2 with ⟨q1, q2⟩ | ⟨g, cap', _, q1, q2⟩
  · omega
  · subst q1
    exact ⟨g, cap', rfl, own_cap h, own_capmax h⟩
end Go.Proofs.YtgfimkeopohjaaaDoor
