/-
  The laws of layer 11: HeapCounts.
-/
import Derived.Test.YtceokibalphgpaaHpO
import Derived.Test.YtceokibalphgpaaHpA
namespace Go.Proofs.Ytceokibalphgpaa
open Go Go.ChangeShapes Go.WideShapes Go.ChangeAt Go.RowKit

abbrev TN : TypeId := 3
abbrev i64v : Int → Value := .int .i64
/-- Two rows of the call's own. -/
structure Two (S : Nat → Prop) (B : Nat) (w : World) (vg vo : Value) (G O : List Int) : Prop where
  g : RowS TU u64v S B w vg G
  o : RowS TN i64v S B w vo O
  d : ∀ j, vg.ownBlock = some j → vo.ownBlock ≠ some j
section
variable {S : Nat → Prop} {B : Nat} {w w' : World} {vg vo : Value} {G O : List Int}
theorem Two.fr (h : Two S B w vg vo G O) (hf : Fr S w w') : Two (exS S w w') B w' vg vo G O := ⟨h.g.fr hf, h.o.fr hf, h.d⟩
theorem Two.below (h : Two S B w vg vo G O) (hf : Below w.heap.size w w') : Two S B w' vg vo G O := ⟨h.g.below hf, h.o.below hf, h.d⟩
theorem Two.app1 {wz : World} {vz : Value} {o : Obj} {x : Int} {n : Nat} (h : Two S B w vg vo G O) (hlt : ∀ b, S b → b < w.heap.size) (hown : wz.ownsRow B TU 1 vz n (G.map u64v ++ [u64v x])) (hg : (w.alloc o).grownBy wz vg.ownBlock) (hat : vz.ownBlock = vg.ownBlock ∨ vz.ownBlock = some (w.alloc o).heap.size) :
    Two S B wz vz vo (G ++ [x]) O ∧ Fr (fun j => vg.ownBlock = some j) w wz := by
  obtain ⟨h1, h2⟩ := h.g.app hlt hown hg hat
  refine ⟨⟨h1, h.o.side h2 fun j hj hk => h.d j hk hj, fun j hj hk => ?_⟩, h2⟩
  rcases hat with e | e
  · exact h.d j (by rw [← e]; exact hj) hk
  · rw [e] at hj
    cases hj
    have := (h.o.own.lt _ hk).2
    simp at this
    omega
theorem Two.app2 {wz : World} {vz : Value} {o : Obj} {x : Int} {n : Nat} (h : Two S B w vg vo G O) (hlt : ∀ b, S b → b < w.heap.size) (hown : wz.ownsRow B TN 1 vz n (O.map i64v ++ [i64v x])) (hg : (w.alloc o).grownBy wz vo.ownBlock) (hat : vz.ownBlock = vo.ownBlock ∨ vz.ownBlock = some (w.alloc o).heap.size) :
    Two S B wz vg vz G (O ++ [x]) ∧ Fr (fun j => vo.ownBlock = some j) w wz := by
  obtain ⟨h1, h2⟩ := h.o.app hlt hown hg hat
  refine ⟨⟨h.g.side h2 fun j hj hk => h.d j hj hk, h1, fun j hj hk => ?_⟩, h2⟩
  rcases hat with e | e
  · exact h.d j hj (by rw [← e]; exact hk)
  · rw [e] at hk
    cases hk
    have := (h.g.own.lt _ hj).2
    simp at this
    omega
theorem Two.put {g n cap : Nat} (h : Two S B w vg (.slice (some ⟨g, 0, none⟩) n cap) G O) (hn : n = O.length) (j : Nat) (x : Int) :
    Two S B (w.setCell ⟨g, j, none⟩ (i64v x)) vg (.slice (some ⟨g, 0, none⟩) n cap) G (O.set j x) ∧ Fr (fun b => b = g) w (w.setCell ⟨g, j, none⟩ (i64v x)) := by
  obtain ⟨h1, h2⟩ := h.o.put hn j x
  exact ⟨⟨h.g.side h2 fun b hb e => h.d b hb (by rw [e]; rfl), h1, h.d⟩, h2⟩
end
/-- HeapCounts, under way. -/
structure CnS (Rp : (Nat → Prop) → World → Value → Hs → Prop) (w : World) (p vg vo : Value) (i : Nat) (S : Nat → Prop) (s : Hs) (out : Int → Int) (wr : World) : Prop where
  two : Two S w.heap.size wr vg vo s.G (s.G.map out)
  ge : ∀ b, S b → w.heap.size ≤ b
  rp : Rp S wr p s
  cp : CnP s out i
  b : Below w.heap.size w wr
def CnI (Rp : (Nat → Prop) → World → Value → Hs → Prop) (w : World) (p vg vo : Value) (i : Nat) (wr : World) : Prop := ∃ S s out, CnS Rp w p vg vo i S s out wr
section
variable {Rp : (Nat → Prop) → World → Value → Hs → Prop} {w : World} {p vg vo : Value} {i : Nat} {S : Nat → Prop} {s : Hs} {out : Int → Int} {wr wq : World}
theorem CnS.next (h : CnS Rp w p vg vo i S s out wr) (HC : HeapC w Rp) (hb : Below wr.heap.size wr wq) : CnS Rp w p vg vo i S s out wq :=
  ⟨h.two.below hb, h.ge, HC.keep h.rp (fun b hS => hb.block b (HC.lt h.rp b hS)) hb.size, h.cp, h.b.trans (hb.mono h.b.size)⟩
theorem CnS.call (h : CnS Rp w p vg vo i S s out wr) (HC : HeapC w Rp) (HL : LnC w Rp) (hi : i ≤ 80) : Calls Try.prog 28 #[p, vg, vo] wr fun e w' => e = .returned (.bool true) ∧ Below wr.heap.size wr w' := by
  have hk := HC.ok h.rp
  have hg := h.cp.g
  refine counted_any w wr Rp HC HL S p s out 1000 s.G vg vo h.b h.rp h.two.g.told h.two.o.told h.cp.c h.cp.b hk.gnd hk.sub (by omega) (fun x hx => ?_) (fun x => ⟨h.cp.c.pos x, by have := h.cp.o x; omega⟩)
  have := hk.nz x hx
  unfold Hn
  omega
end
/-- What a count is. -/
theorem cn_val {s : Hs} {out : Int → Int} {i : Nat} {x : Int} (h : CnP s out i) (hk : HOk s) (hi : i ≤ 80) : ∃ cx : Int, (match whl s.L x with | some o => o.count | none => 0) = cx ∧ (0 < cx ∧ cx ≤ 400 ∧ (∃ o ∈ s.L, o.h = x) ∨ cx = 0) := by
  cases hf : fnd s.L x with
  | none =>
    refine ⟨0, ?_, .inr rfl⟩
    unfold whl
    rw [hf]
  | some o =>
    obtain ⟨ho, he⟩ := fnd_some hf
    have h1 := h.whl ho
    rw [he] at h1
    have h2 := h.cnt hk hi ho
    exact ⟨o.count, by rw [h1], .inl ⟨by omega, h2.2, o, ho, he⟩⟩
theorem CnS.count {Rp : (Nat → Prop) → World → Value → Hs → Prop} {w : World} {vg vo : Value} {pb i : Nat} {S : Nat → Prop} {s : Hs} {out : Int → Int} {wr : World} (h : CnS Rp w (.pointer (some ⟨pb, 0, none⟩)) vg vo i S s out wr) (HC : HeapC w Rp) (hi : i ≤ 80) (x : Int) (hx : Hn x) :
    ∃ cx : Int, (0 < cx ∧ cx ≤ 400 ∧ (∃ o ∈ s.L, o.h = x) ∨ cx = 0) ∧ ∀ wq, Below wr.heap.size wr wq → Calls Try.prog 26 #[.pointer (some ⟨pb, 0, none⟩), .int .u64 x] wq fun e w' => Below wq.heap.size wq w' ∧ e = .returned (.int .u32 cx) := by
  obtain ⟨cx, h1, h2⟩ := cn_val (x := x) h.cp (HC.ok h.rp) hi
  refine ⟨cx, h2, fun wq hb => ?_⟩
  have hn := h.next HC hb
  refine (HC.cn S wq _ s x hn.b hn.rp hx).mono ?_
  rintro e w' ⟨hb, rfl⟩
  exact ⟨hb, congrArg (fun z => Ending.returned (.int .u32 z)) h1⟩
theorem and1 (n : Int) : bits .and .i64 n 1 = n % 2 := by
  have h1 : (BitVec.ofInt 64 1).toNat = 2 ^ 1 - 1 := by decide
  have key : (BitVec.ofInt 64 n &&& BitVec.ofInt 64 1).toNat = (n % ((2 ^ 64 : Nat) : Int)).toNat % 2 ^ 1 := by
    rw [BitVec.toNat_and, BitVec.toNat_ofInt, h1, Nat.and_two_pow_sub_one_eq_mod]
  show IntKind.i64.wrap ((BitVec.ofInt 64 n &&& BitVec.ofInt 64 1).toNat : Nat) = n % 2
  rw [key, IntKind.wrap_i64]
  omega
set_option maxRecDepth 100000 in
theorem infoN : (Try.prog.info? TN).map (fun i => (i.zero, i.size, i.bytes)) = some (some (.int .i64 0), 1, 8) := by kernel_rfl
end Go.Proofs.Ytceokibalphgpaa
