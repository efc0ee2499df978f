/-
  A value in memory: its cells, its parts' rows.
-/
import Derived.Test.YtplckmoeaeabgaaVrM
import Derived.Test.YtplckmoeaeabgaaWrA
namespace Go.Proofs.Ytplckmoeaeabgaa
open Go Go.ChangeShapes Go.WideShapes Go.ChangeAt Go.RowKit

set_option maxRecDepth 100000 in
/-- Induction over the parts of a value. -/
theorem Vr.ind {P : Vr → Prop} (h : ∀ k n s l, (∀ x ∈ l, P x) → P (.mk k n s l)) : ∀ v, P v
  | .mk k n s l => h k n s l fun x _ => Vr.ind h x
/-- A value's four cells in a world, all that they reach in a set of blocks. -/
inductive VS (w : World) (S : Nat → Prop) : Vr → List Value → Prop where
  | mk (k n : Int) (s : List Int) (l : List Vr) (a : Option Addr) (c : Nat) (cs : Nat → List Value)
    (hk : -9223372036854775808 ≤ k ∧ k ≤ 9223372036854775807) (hn : -9223372036854775808 ≤ n ∧ n ≤ 9223372036854775807) (hs : Byt s) (hc : l.length ≤ c ∧ c ≤ 9223372036854775807) (h0 : a = none → c = 0)
    (ha : 0 < l.length → ∃ b o, a = some ⟨b, o, none⟩ ∧ S b)
    (hl : ∀ b o, a = some ⟨b, o, none⟩ → ∀ (i : Nat) x, l[i]? = some x → AtL w b (o + i * 4) (cs i))
    (hp : ∀ (i : Nat) x, l[i]? = some x → VS w S x (cs i)) : VS w S (.mk k n s l) [.int .i64 k, .int .i64 n, .string (strI s), .slice a l.length c]
/-- All below a bound. -/
abbrev VIn (w : World) (B : Nat) (v : Vr) (cs : List Value) : Prop := VS w (fun b => b < B) v cs
set_option maxRecDepth 100000 in
theorem VS.of_blocks {w w' : World} {S : Nat → Prop} (hB : ∀ b, S b → w'.heap[b]? = w.heap[b]?) : ∀ {v : Vr} {cs : List Value}, VS w S v cs → VS w' S v cs := fun {v} {cs} h => by
  induction h with
  | mk k n s l a c cs hk hn hs hc h0 ha hl hp ih =>
    refine .mk k n s l a c cs hk hn hs hc h0 ha (fun b o he i x hx j u hu => ?_) ih
    obtain ⟨b', o', h1, h2⟩ := ha (by have := (List.getElem?_eq_some_iff.1 hx).1; omega)
    rw [he] at h1; cases h1
    exact (World.cell?_of_block (w := w) (w' := w') (a := ⟨b, o + i * 4 + j, none⟩) (hB b h2)).trans (hl b o he i x hx j u hu)
set_option maxRecDepth 100000 in
theorem VS.weak {w : World} {S S' : Nat → Prop} (hS : ∀ b, S b → S' b) : ∀ {v : Vr} {cs : List Value}, VS w S v cs → VS w S' v cs := fun {v} {cs} h => by
  induction h with
  | mk k n s l a c cs hk hn hs hc h0 ha hl hp ih =>
    exact .mk k n s l a c cs hk hn hs hc h0 (fun hl => by obtain ⟨b, o, h1, h2⟩ := ha hl; exact ⟨b, o, h1, hS b h2⟩) hl ih
set_option maxRecDepth 100000 in
theorem VIn.kept {w w' : World} {B : Nat} {v : Vr} {cs : List Value} (h : VIn w B v cs) (hB : Below B w w') : VIn w' B v cs := VS.of_blocks (fun b hb => hB.block b hb) h
set_option maxRecDepth 100000 in
theorem VIn.mono {w : World} {B B' : Nat} (hB : B ≤ B') {v : Vr} {cs : List Value} (h : VIn w B v cs) : VIn w B' v cs := VS.weak (fun _ hb => Nat.lt_of_lt_of_le hb hB) h
set_option maxRecDepth 100000 in
theorem VIn.on {w w' : World} {v : Vr} {cs : List Value} (h : VIn w w.heap.size v cs) (hB : Below w.heap.size w w') : VIn w' w'.heap.size v cs := VIn.mono hB.size (h.kept hB)
set_option maxRecDepth 100000 in
theorem VIn.fr {w w' : World} {fp : Nat → Prop} {B : Nat} {v : Vr} {cs : List Value} (h : VIn w B v cs) (hf : Fr fp w w') (hB : B ≤ w.heap.size) (hn : ∀ k, k < B → ¬ fp k) : VIn w' B v cs :=
  VS.of_blocks (fun b hb => hf.block b (Nat.lt_of_lt_of_le hb hB) (hn b hb)) h
set_option maxRecDepth 100000 in
/-- The cells of a value, apart. -/
theorem VIn.open {w : World} {B : Nat} {v : Vr} {cs : List Value} (h : VIn w B v cs) : ∃ (a : Option Addr) (c : Nat), cs = [.int .i64 v.k, .int .i64 v.n, .string (strI v.s), .slice a v.l.length c] ∧ (v.l.length ≤ c ∧ c ≤ 9223372036854775807) ∧ (a = none → c = 0) ∧ Byt v.s ∧ (-9223372036854775808 ≤ v.k ∧ v.k ≤ 9223372036854775807) ∧ (-9223372036854775808 ≤ v.n ∧ v.n ≤ 9223372036854775807) ∧
    ∀ (i : Nat) x, v.l[i]? = some x → ∃ b o cx, a = some ⟨b, o, none⟩ ∧ b < B ∧ AtL w b (o + i * 4) cx ∧ VIn w B x cx := by
  cases h with
  | mk k n s l a c cs hk hn hs hc h0 ha hl hp =>
    refine ⟨a, c, rfl, hc, h0, hs, hk, hn, fun i x hx => ?_⟩
    obtain ⟨b, o, h1, h2⟩ := ha (by have h3 := (List.getElem?_eq_some_iff.1 (show l[i]? = some x from hx)).1; omega)
    exact ⟨b, o, cs i, h1, h2, hl b o h1 i x hx, hp i x hx⟩
set_option maxRecDepth 100000 in
theorem VIn.len {w : World} {B : Nat} {v : Vr} {cs : List Value} (h : VIn w B v cs) : cs.length = 4 := by cases h; rfl
end Go.Proofs.Ytplckmoeaeabgaa
