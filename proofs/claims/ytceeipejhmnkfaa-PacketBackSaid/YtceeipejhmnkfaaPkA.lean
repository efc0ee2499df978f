/-
  Packets: their cells; the plain twin's Right.
-/
import Derived.Test.YtceeipejhmnkfaaObA
import Derived.Test.YtceeipejhmnkfaaObQ
import Derived.Test.YtceeipejhmnkfaaObS
namespace Go.Proofs.Ytceeipejhmnkfaa
open Go Go.ChangeShapes Go.WideShapes Go.ChangeAt Go.RowKit

/-- A packet, plainly. -/
structure Pk where
  ki : Int
  fr : Int
  to : Int
  sq : Int
  ca : Int
  ip : List Int
  me : Int
  n : Int
  co : Int
  rs : List Orf
abbrev I64 (x : Int) : Prop := -9223372036854775808 ≤ x ∧ x ≤ 9223372036854775807
structure PkOk (p : Pk) : Prop where
  ki : I64 p.ki
  fr : I64 p.fr
  to : I64 p.to
  sq : U64 p.sq
  ca : U64 p.ca
  ip : IsG p.ip
  me : I64 p.me
  n : I64 p.n
  co : I64 p.co
  rs : ∀ x ∈ p.rs, OrfOk x
def pkc (p : Pk) (a : Option Addr) (c : Nat) : List Value := [.int .i64 p.ki, .int .i64 p.fr, .int .i64 p.to, .int .u64 p.sq, .int .u64 p.ca] ++ (u8l p.ip ++ [.int .i64 p.me, .int .i64 p.n, .int .i64 p.co, .slice a p.rs.length c])
def pkA (p : Pk) (a : Option Addr) (c : Nat) : Array Value := (pkc p a c).toArray
def g0 : List Int := List.replicate 16 0
def pkZ : Pk := ⟨0, 0, 0, 0, 0, g0, 0, 0, 0, []⟩
theorem pkc_len {p : Pk} (h : p.ip.length = 16) (a : Option Addr) (c : Nat) : (pkc p a c).length = 25 := by simp [pkc, u8l, h]
set_option maxRecDepth 100000 in
theorem szP : (Try.prog.info? 28).map (·.size) = some 25 := by kernel_rfl
/-- A block that holds a packet. -/
def InP (W : World) (b : Nat) (p : Pk) (a : Option Addr) (c : Nat) : Prop := W.heap[b]? = some (.cells (pkA p a c) 28 (0, 0))
theorem InP.cell {W : World} {b : Nat} {p : Pk} {a : Option Addr} {c : Nat} (h : InP W b p a c) (j : Nat) : W.cell? ⟨b, j, none⟩ = (pkc p a c)[j]? := by
  unfold InP at h
  simp [World.cell?, h, pkA]
theorem InP.lt {W : World} {b : Nat} {p : Pk} {a : Option Addr} {c : Nat} (h : InP W b p a c) : b < W.heap.size := lt_of_heap h
theorem InP.below {W W' : World} {b : Nat} {p : Pk} {a : Option Addr} {c : Nat} (h : InP W b p a c) (hB : Below W.heap.size W W') : InP W' b p a c := by
  unfold InP at *
  rw [hB.block b (lt_of_heap h)]; exact h
theorem InP.fr' {fp : Nat → Prop} {W W' : World} {b : Nat} {p : Pk} {a : Option Addr} {c : Nat} (h : InP W b p a c) (hB : Fr fp W W') (hb : ¬ fp b) : InP W' b p a c := by
  unfold InP at *
  rw [hB.block b (lt_of_heap h) hb]; exact h
section
variable {W : World} {b : Nat} {p : Pk} {a : Option Addr} {c : Nat}
theorem InP.c0 (h : InP W b p a c) : W.cell? ⟨b, 0, none⟩ = some (.int .i64 p.ki) := h.cell 0
theorem InP.c1 (h : InP W b p a c) : W.cell? ⟨b, 1, none⟩ = some (.int .i64 p.fr) := h.cell 1
theorem InP.c2 (h : InP W b p a c) : W.cell? ⟨b, 2, none⟩ = some (.int .i64 p.to) := h.cell 2
theorem InP.c3 (h : InP W b p a c) : W.cell? ⟨b, 3, none⟩ = some (.int .u64 p.sq) := h.cell 3
theorem InP.c4 (h : InP W b p a c) : W.cell? ⟨b, 4, none⟩ = some (.int .u64 p.ca) := h.cell 4
theorem InP.ip (h : InP W b p a c) : AtL W b 5 (u8l p.ip) := fun j v hv => by
  have h1 := h.cell (5 + j)
  have : (pkc p a c)[5 + j]? = some v := by
    unfold pkc
    rw [List.getElem?_append_right (by simp), List.getElem?_append_left (by have := (List.getElem?_eq_some_iff.1 hv).1; simp; omega)]
    simpa using hv
  rw [this] at h1
  exact h1
theorem pkc_back (h16 : p.ip.length = 16) (j : Nat) : (pkc p a c)[21 + j]? = [Value.int .i64 p.me, .int .i64 p.n, .int .i64 p.co, .slice a p.rs.length c][j]? := by
  unfold pkc
  rw [← List.append_assoc, List.getElem?_append_right (by simp [u8l, h16])]
  simp [u8l, h16]
theorem InP.c21 (h : InP W b p a c) (h16 : p.ip.length = 16) : W.cell? ⟨b, 21, none⟩ = some (.int .i64 p.me) := (h.cell 21).trans (pkc_back h16 0)
theorem InP.c22 (h : InP W b p a c) (h16 : p.ip.length = 16) : W.cell? ⟨b, 22, none⟩ = some (.int .i64 p.n) := (h.cell 22).trans (pkc_back h16 1)
theorem InP.c23 (h : InP W b p a c) (h16 : p.ip.length = 16) : W.cell? ⟨b, 23, none⟩ = some (.int .i64 p.co) := (h.cell 23).trans (pkc_back h16 2)
theorem InP.c24 (h : InP W b p a c) (h16 : p.ip.length = 16) : W.cell? ⟨b, 24, none⟩ = some (.slice a p.rs.length c) := (h.cell 24).trans (pkc_back h16 3)
end
/-- A row of Objrefs, all below a bound. -/
structure RwO (W : World) (B : Nat) (a : Option Addr) (rs : List Orf) : Prop where
  at_ : 0 < rs.length → ∃ b o, a = some ⟨b, o, none⟩ ∧ b < B
  rows : ∀ b o, a = some ⟨b, o, none⟩ → ∀ (i : Nat) x, rs[i]? = some x → AtL W b (o + i * 36) (orc x)
theorem RwO.of_blocks {W W' : World} {B : Nat} {a : Option Addr} {rs : List Orf} (h : RwO W B a rs) (hB : ∀ b, b < B → W'.heap[b]? = W.heap[b]?) : RwO W' B a rs :=
  ⟨h.at_, fun b o he i x hx j u hu => by
    obtain ⟨b', o', h1, h2⟩ := h.at_ (by have := (List.getElem?_eq_some_iff.1 hx).1; omega)
    rw [he] at h1; cases h1
    exact (World.cell?_of_block (w := W) (w' := W') (a := ⟨b, o + i * 36 + j, none⟩) (hB b h2)).trans (h.rows b o he i x hx j u hu)⟩
theorem RwO.kept {W W' : World} {B : Nat} {a : Option Addr} {rs : List Orf} (h : RwO W B a rs) (hB : Below B W W') : RwO W' B a rs := h.of_blocks (fun b hb => hB.block b hb)
theorem RwO.mono {W : World} {B B' : Nat} {a : Option Addr} {rs : List Orf} (h : RwO W B a rs) (hB : B ≤ B') : RwO W B' a rs := ⟨fun hl => by obtain ⟨b, o, h1, h2⟩ := h.at_ hl; exact ⟨b, o, h1, by omega⟩, h.rows⟩
theorem RwO.on {W W' : World} {a : Option Addr} {rs : List Orf} (h : RwO W W.heap.size a rs) (hB : Below W.heap.size W W') : RwO W' W'.heap.size a rs := (h.kept hB).mono hB.size
theorem RwO.fr {W W' : World} {fp : Nat → Prop} {B : Nat} {a : Option Addr} {rs : List Orf} (h : RwO W B a rs) (hf : Fr fp W W') (hB : B ≤ W.heap.size) (hn : ∀ k, k < B → ¬ fp k) : RwO W' B a rs :=
  h.of_blocks (fun b hb => hf.block b (Nat.lt_of_lt_of_le hb hB) (hn b hb))
set_option maxRecDepth 100000 in
theorem AtL.loadO {W : World} {b o : Nat} {x : Orf} (h : AtL W b o (orc x)) (hx : OrfOk x) : (loadVar 58 ⟨b, o, none⟩).run Try.prog W = .ok (.agg (orA x)) W := by
  have h1 := h.run (P := Try.prog)
  cases hq : Try.prog.info? 58 with
  | none => have := szO; simp [hq] at this
  | some i =>
    have hi : i.size = 36 := by have := szO; simpa [hq] using this
    rw [orc_len hx.ip.len hx.ii.len] at h1
    simp [loadVar, sizeOf, typeInfo, hq, hi, loadCells, h1, orA]
/-- An operation that loads an Objref out of a row. -/
theorem load_oa {o : Oper} {f : Operand → Value} {p : Operand} {b off : Nat} {x : Orf} {W : World} (ho : o.op = .load 58 p) (hp : f p = .pointer (some ⟨b, off, none⟩)) (h : AtL W b off (orc x)) (hx : OrfOk x) : (execOp f o).run Try.prog W = .ok (.value (.agg (orA x))) W := by
  have h1 := h.loadO hx
  unfold execOp
  simp only [ho, hp, Instr.loadAt, Instr.sureAddr, Sem.run_bind, Sem.run_pure, Result.andThen_ok, h1]
set_option maxRecDepth 100000 in
theorem eqG' (x y : List Int) (hx : x.length = 16) (hy : y.length = 16) (w : World) : (Op.equalIn 10000 24 (.agg (u8s x)) (.agg (u8s y))).run Try.prog w = .ok (x == y) w :=
  run_equalIn_u8s w 9998 24 5 16 Try.underlying24 Try.underlying5 szB x y hx hy
set_option maxRecDepth 100000 in
theorem guardG' (op : BinOp) (a b : Operand) (xs ys : Array Value) (W : World) : (eqGuard op 24 a b (.agg xs) (.agg ys)).run Try.prog W = .ok () W := run_eqGuard_agg W op 24 a b xs ys (by kernel_rfl)
/-- Is it right? -/
def rightP (p : Pk) : Bool :=
  if p.fr < 0 ∨ 3 < p.fr ∨ p.to < 0 ∨ 3 < p.to ∨ p.fr = p.to then false
  else if p.ki = 1 then decide (p.rs.length ≤ 1) && (p.rs.all rightO && (decide (0 ≤ p.me) && (decide (p.me ≤ 7) && (p.co == 0))))
  else if p.ki = 2 then (p.ip == g0) && ((p.me == 0) && (((p.rs.length : Int) == 0) && (decide (0 ≤ p.co) && decide (p.co ≤ 20))))
  else if p.ki = 3 ∨ p.ki = 4 then (p.ca == 0) && ((p.me == 0) && ((p.co == 0) && (((p.rs.length : Int) == 0) && (decide (1 ≤ p.n) && decide (p.n ≤ 4294967295)))))
  else if p.ki = 5 then (p.ca == 0) && ((p.ip == g0) && ((p.me == 0) && ((p.co == 0) && ((p.n == 0) && ((p.rs.length : Int) == 0)))))
  else false
end Go.Proofs.Ytceeipejhmnkfaa
