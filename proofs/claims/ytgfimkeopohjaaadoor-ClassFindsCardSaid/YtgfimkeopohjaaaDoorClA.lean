/-
  Classes and modules, plainly and in memory.
-/
import Derived.Test.YtgfimkeopohjaaaDoorFcG
import Derived.Test.YtgfimkeopohjaaaDoorCdB
import Derived.Test.YtgfimkeopohjaaaDoorGen
namespace Go.Proofs.YtgfimkeopohjaaaDoor
open Go Go.ChangeShapes Go.WideShapes Go.ChangeAt Go.RowKit

/-- A class. -/
structure Cls where
  id : List Int
  faces : List Face
  slots : Int
  methods : List (List Ins)
/-- A slice of instructions, below a bound. -/
def SlI (W : World) (B : Nat) (v : Value) (l : List Ins) : Prop := ∃ a c, v = .slice a l.length c ∧ RwI W B a l ∧ l.length ≤ c ∧ c ≤ 9223372036854775807 ∧ ∀ x ∈ l, InsOk x
/-- .. of faces. -/
def SlF (W : World) (B : Nat) (v : Value) (l : List Face) : Prop := ∃ a c, v = .slice a l.length c ∧ FRow W B a l ∧ l.length ≤ c ∧ c ≤ 9223372036854775807
/-- Rows of instructions, in a row. -/
structure RwM (W : World) (B : Nat) (a : Option Addr) (ms : List (List Ins)) : Prop where
  at_ : 0 < ms.length → ∃ b o, a = some ⟨b, o, none⟩ ∧ b < B
  rows : ∀ b o, a = some ⟨b, o, none⟩ → ∀ (i : Nat) l, ms[i]? = some l → ∃ v, W.cell? ⟨b, o + i, none⟩ = some v ∧ SlI W B v l
def SlM (W : World) (B : Nat) (v : Value) (ms : List (List Ins)) : Prop := ∃ a c, v = .slice a ms.length c ∧ RwM W B a ms ∧ ms.length ≤ c ∧ c ≤ 9223372036854775807
/-- A class's cells. -/
def clc (c : Cls) (vf vm : Value) : List Value := u8l c.id ++ [vf, .int .i64 c.slots, vm]
structure ClC (W : World) (B : Nat) (c : Cls) (vf vm : Value) : Prop where
  f : SlF W B vf c.faces
  m : SlM W B vm c.methods
  id : c.id.length = 16
  slots : J64 c.slots
/-- Classes in a row. -/
structure RwC (W : World) (B : Nat) (a : Option Addr) (l : List Cls) : Prop where
  at_ : 0 < l.length → ∃ b o, a = some ⟨b, o, none⟩ ∧ b < B
  rows : ∀ b o, a = some ⟨b, o, none⟩ → ∀ (i : Nat) c, l[i]? = some c → ∃ vf vm, AtL W b (o + i * 19) (clc c vf vm) ∧ ClC W B c vf vm
/-- A module's one cell. -/
def SlC (W : World) (B : Nat) (v : Value) (l : List Cls) : Prop := ∃ a c, v = .slice a l.length c ∧ RwC W B a l ∧ l.length ≤ c ∧ c ≤ 9223372036854775807
section
variable {W W' : World} {B B' : Nat}
theorem SlI.kept {v : Value} {l : List Ins} (h : SlI W B v l) (hB : ∀ b, b < B → W'.heap[b]? = W.heap[b]?) : SlI W' B v l := by
  obtain ⟨a, c, h1, h2, h3⟩ := h
  exact ⟨a, c, h1, h2.of_blocks hB, h3⟩
theorem SlI.mono {v : Value} {l : List Ins} (h : SlI W B v l) (hB : B ≤ B') : SlI W B' v l := by
  obtain ⟨a, c, h1, h2, h3⟩ := h
  exact ⟨a, c, h1, h2.mono hB, h3⟩
theorem SlF.kept {v : Value} {l : List Face} (h : SlF W B v l) (hB : ∀ b, b < B → W'.heap[b]? = W.heap[b]?) : SlF W' B v l := by
  obtain ⟨a, c, h1, h2, h3⟩ := h
  exact ⟨a, c, h1, h2.of_blocks (fun b _ _ hb => hB b hb), h3⟩
theorem SlF.mono {v : Value} {l : List Face} (h : SlF W B v l) (hB : B ≤ B') : SlF W B' v l := by
  obtain ⟨a, c, h1, h2, h3⟩ := h
  exact ⟨a, c, h1, h2.mono hB, h3⟩
theorem RwM.kept {a : Option Addr} {ms : List (List Ins)} (h : RwM W B a ms) (hB : ∀ b, b < B → W'.heap[b]? = W.heap[b]?) : RwM W' B a ms :=
  ⟨h.at_, fun b o he i l hl => by
    obtain ⟨b', o', h1, h2⟩ := h.at_ (by have := (List.getElem?_eq_some_iff.1 hl).1; omega)
    rw [he] at h1; cases h1
    obtain ⟨v, h3, h4⟩ := h.rows b o he i l hl
    exact ⟨v, (World.cell?_of_block (w := W) (w' := W') (a := ⟨b, o + i, none⟩) (hB b h2)).trans h3, h4.kept hB⟩⟩
theorem RwM.mono {a : Option Addr} {ms : List (List Ins)} (h : RwM W B a ms) (hB : B ≤ B') : RwM W B' a ms :=
  ⟨fun hl => by obtain ⟨b, o, h1, h2⟩ := h.at_ hl; exact ⟨b, o, h1, by omega⟩, fun b o he i l hl => by
    obtain ⟨v, h3, h4⟩ := h.rows b o he i l hl
    exact ⟨v, h3, h4.mono hB⟩⟩
theorem SlM.kept {v : Value} {l : List (List Ins)} (h : SlM W B v l) (hB : ∀ b, b < B → W'.heap[b]? = W.heap[b]?) : SlM W' B v l := by
  obtain ⟨a, c, h1, h2, h3⟩ := h
  exact ⟨a, c, h1, h2.kept hB, h3⟩
theorem SlM.mono {v : Value} {l : List (List Ins)} (h : SlM W B v l) (hB : B ≤ B') : SlM W B' v l := by
  obtain ⟨a, c, h1, h2, h3⟩ := h
  exact ⟨a, c, h1, h2.mono hB, h3⟩
theorem ClC.kept {c : Cls} {vf vm : Value} (h : ClC W B c vf vm) (hB : ∀ b, b < B → W'.heap[b]? = W.heap[b]?) : ClC W' B c vf vm := ⟨h.f.kept hB, h.m.kept hB, h.id, h.slots⟩
theorem ClC.mono {c : Cls} {vf vm : Value} (h : ClC W B c vf vm) (hB : B ≤ B') : ClC W B' c vf vm := ⟨h.f.mono hB, h.m.mono hB, h.id, h.slots⟩
theorem ClC.on {c : Cls} {vf vm : Value} (h : ClC W W.heap.size c vf vm) (hB : Below W.heap.size W W') : ClC W' W'.heap.size c vf vm := (h.kept (fun b hb => hB.block b hb)).mono hB.size
theorem RwC.kept {a : Option Addr} {l : List Cls} (h : RwC W B a l) (hB : ∀ b, b < B → W'.heap[b]? = W.heap[b]?) : RwC W' B a l :=
  ⟨h.at_, fun b o he i c hc => by
    obtain ⟨b', o', h1, h2⟩ := h.at_ (by have := (List.getElem?_eq_some_iff.1 hc).1; omega)
    rw [he] at h1; cases h1
    obtain ⟨vf, vm, h3, h4⟩ := h.rows b o he i c hc
    exact ⟨vf, vm, fun j u hu => (World.cell?_of_block (w := W) (w' := W') (a := ⟨b, o + i * 19 + j, none⟩) (hB b h2)).trans (h3 j u hu), h4.kept hB⟩⟩
theorem RwC.mono {a : Option Addr} {l : List Cls} (h : RwC W B a l) (hB : B ≤ B') : RwC W B' a l :=
  ⟨fun hl => by obtain ⟨b, o, h1, h2⟩ := h.at_ hl; exact ⟨b, o, h1, by omega⟩, fun b o he i c hc => by
    obtain ⟨vf, vm, h3, h4⟩ := h.rows b o he i c hc
    exact ⟨vf, vm, h3, h4.mono hB⟩⟩
theorem RwC.on {a : Option Addr} {l : List Cls} (h : RwC W W.heap.size a l) (hB : Below W.heap.size W W') : RwC W' W'.heap.size a l := (h.kept (fun b hb => hB.block b hb)).mono hB.size
theorem SlC.kept {v : Value} {l : List Cls} (h : SlC W B v l) (hB : ∀ b, b < B → W'.heap[b]? = W.heap[b]?) : SlC W' B v l := by
  obtain ⟨a, c, h1, h2, h3⟩ := h
  exact ⟨a, c, h1, h2.kept hB, h3⟩
theorem SlC.mono {v : Value} {l : List Cls} (h : SlC W B v l) (hB : B ≤ B') : SlC W B' v l := by
  obtain ⟨a, c, h1, h2, h3⟩ := h
  exact ⟨a, c, h1, h2.mono hB, h3⟩
theorem SlC.on {v : Value} {l : List Cls} (h : SlC W W.heap.size v l) (hB : Below W.heap.size W W') : SlC W' W'.heap.size v l := (h.kept (fun b hb => hB.block b hb)).mono hB.size
end
theorem clc_len {c : Cls} {vf vm : Value} (h : c.id.length = 16) : (clc c vf vm).length = 19 := by simp [clc, u8l_len, h]
theorem clc_f {c : Cls} {vf vm : Value} (h : c.id.length = 16) : (clc c vf vm)[16]? = some vf := by
  unfold clc
  rw [List.getElem?_append_right (by rw [u8l_len]; omega), u8l_len, h]; rfl
theorem clc_s {c : Cls} {vf vm : Value} (h : c.id.length = 16) : (clc c vf vm)[17]? = some (.int .i64 c.slots) := by
  unfold clc
  rw [List.getElem?_append_right (by rw [u8l_len]; omega), u8l_len, h]; rfl
theorem clc_m {c : Cls} {vf vm : Value} (h : c.id.length = 16) : (clc c vf vm)[18]? = some vm := by
  unfold clc
  rw [List.getElem?_append_right (by rw [u8l_len]; omega), u8l_len, h]; rfl
theorem clc_id {c : Cls} {vf vm : Value} (h : c.id.length = 16) (j : Nat) (v : Value) (hv : (u8s c.id)[j]? = some v) : (clc c vf vm)[j]? = some v := by
  have hj : j < 16 := by
    have := (Array.getElem?_eq_some_iff.1 hv).1
    rw [u8s_size] at this; omega
  unfold clc
  rw [List.getElem?_append_left (by rw [u8l_len]; omega)]
  simpa [u8s, u8l] using hv
/-- A class in a block of its own. -/
def InC (W : World) (b : Nat) (c : Cls) (vf vm : Value) : Prop := W.heap[b]? = some (.cells (clc c vf vm).toArray 38 (0, 0))
section
variable {W : World} {b : Nat} {c : Cls} {vf vm : Value}
theorem InC.at (h : InC W b c vf vm) : AtL W b 0 (clc c vf vm) := AtL.row h
theorem InC.cf (h : InC W b c vf vm) (hi : c.id.length = 16) : W.cell? ⟨b, 16, none⟩ = some vf := by have := h.at 16 _ (clc_f hi); simpa using this
theorem InC.cs (h : InC W b c vf vm) (hi : c.id.length = 16) : W.cell? ⟨b, 17, none⟩ = some (.int .i64 c.slots) := by have := h.at 17 _ (clc_s hi); simpa using this
theorem InC.cm (h : InC W b c vf vm) (hi : c.id.length = 16) : W.cell? ⟨b, 18, none⟩ = some vm := by have := h.at 18 _ (clc_m hi); simpa using this
theorem InC.cid (h : InC W b c vf vm) (hi : c.id.length = 16) : AtL W b 0 (u8s c.id).toList := fun j v hv => h.at j v (clc_id hi j v (by simpa using hv))
theorem InC.on {W' : World} (h : InC W b c vf vm) (hb : Below W.heap.size W W') : InC W' b c vf vm := (hb.block _ (Array.getElem?_eq_some_iff.1 h).1).trans h
end
set_option maxRecDepth 100000 in
theorem sizeC : (Tryd.prog.info? 38).map (·.size) = some 19 := by kernel_rfl
/-- A class is loaded. -/
theorem load_c {o : Oper} {f : Operand → Value} {p : Operand} {b off : Nat} {cs : List Value} {W : World} (ho : o.op = .load 38 p) (hp : f p = .pointer (some ⟨b, off, none⟩)) (h : AtL W b off cs) (hl : cs.length = 19) : (execOp f o).run Tryd.prog W = .ok (.value (.agg cs.toArray)) W := by
  have h1 := h.run (P := Tryd.prog)
  rw [hl] at h1
  have h2 : (loadVar 38 ⟨b, off, none⟩).run Tryd.prog W = .ok (.agg cs.toArray) W := by
    cases hq : Tryd.prog.info? 38 with
    | none => have := sizeC; simp [hq] at this
    | some i =>
      have hi : i.size = 19 := by have := sizeC; simpa [hq] using this
      simp [loadVar, sizeOf, typeInfo, hq, hi, loadCells, h1]
  unfold execOp
  simp only [ho, hp, Instr.loadAt, Instr.sureAddr, Sem.run_bind, Sem.run_pure, Result.andThen_ok, h2]
end Go.Proofs.YtgfimkeopohjaaaDoor
