/-
  Rows of instructions; the plain twin's goes.
-/
import Derived.Test.YtcoclaabainibaaDoorCdA
namespace Go.Proofs.YtcoclaabainibaaDoor
open Go Go.ChangeShapes Go.WideShapes Go.ChangeAt Go.RowKit

/-- A row of instructions, all below a bound. -/
structure RwI (W : World) (B : Nat) (a : Option Addr) (ls : List Ins) : Prop where
  at_ : 0 < ls.length → ∃ b o, a = some ⟨b, o, none⟩ ∧ b < B
  rows : ∀ b o, a = some ⟨b, o, none⟩ → ∀ (i : Nat) x, ls[i]? = some x → AtL W b (o + i * 3) (insc x)
theorem RwI.of_blocks {W W' : World} {B : Nat} {a : Option Addr} {ls : List Ins} (h : RwI W B a ls) (hB : ∀ b, b < B → W'.heap[b]? = W.heap[b]?) : RwI W' B a ls :=
  ⟨h.at_, fun b o he i x hx j u hu => by
    obtain ⟨b', o', h1, h2⟩ := h.at_ (by have := (List.getElem?_eq_some_iff.1 hx).1; omega)
    rw [he] at h1; cases h1
    exact (World.cell?_of_block (w := W) (w' := W') (a := ⟨b, o + i * 3 + j, none⟩) (hB b h2)).trans (h.rows b o he i x hx j u hu)⟩
theorem RwI.kept {W W' : World} {B : Nat} {a : Option Addr} {ls : List Ins} (h : RwI W B a ls) (hB : Below B W W') : RwI W' B a ls := h.of_blocks (fun b hb => hB.block b hb)
theorem RwI.mono {W : World} {B B' : Nat} {a : Option Addr} {ls : List Ins} (h : RwI W B a ls) (hB : B ≤ B') : RwI W B' a ls := ⟨fun hl => by obtain ⟨b, o, h1, h2⟩ := h.at_ hl; exact ⟨b, o, h1, by omega⟩, h.rows⟩
theorem RwI.on {W W' : World} {a : Option Addr} {ls : List Ins} (h : RwI W W.heap.size a ls) (hB : Below W.heap.size W W') : RwI W' W'.heap.size a ls := (h.kept hB).mono hB.size
/-- May the instruction at k go on at i? -/
def goesP (x : Ins) (k i : Nat) : Bool := if x.op = 11 then false else (i == k + 1) || ((x.op == 7) && (x.a == (i : Int) - k - 1))
set_option maxRecDepth 100000 in
set_option maxHeartbeats 2000000 in
theorem goes_any (ls : List Ins) (ad : Option Addr) (n c k i : Nat) (x : Ins) (w : World) (h : RwI w w.heap.size ad ls) (hn : n = ls.length) (hk : ls[k]? = some x) (hi : i ≤ 1000) (hk2 : k < n) (hk3 : k ≤ 1000) (hc : n ≤ c) :
    Calls Tryd.prog 19 #[.slice ad n c, .int .i64 k, .int .i64 i] w fun e w' => e = .returned (.bool (goesP x k i)) ∧ w = w' := by
  obtain ⟨b, o, rfl, _⟩ := h.at_ (by omega)
  have hat := h.rows b o rfl k x hk
  have c0 : w.cell? ⟨b, o + k * 3, none⟩ = some (.int .i64 x.op) := by simpa using hat 0 _ rfl
  have c1 : w.cell? ⟨b, o + k * 3 + 1, none⟩ = some (.int .i64 x.a) := hat 1 _ rfl
  have HZ := hid (show goesP x k i = if x.op = 11 then false else (i == k + 1) || ((x.op == 7) && (x.a == (i : Int) - k - 1)) from rfl)
  generalize goesP x k i = z at *
  obtain ⟨op, a, bb⟩ := x
  simp only at c0 c1 HZ
  have hc1 := hc
  clear hat h hk hn hc
  by_cases h1 : op = 11
  · rw [if_pos h1] at HZ
    subst h1
    go_enter Tryd.func19, Tryd.ntmps19
    go_wp2
    go_ret
    exact ⟨ret_bool HZ.out.symm, rfl⟩
  rw [if_neg h1] at HZ
  have d1 : (op == 11) = false := by simpa using h1
  clear h1
  by_cases h2 : i = k + 1
  · have e2 : (i == k + 1) = true := by simpa using h2
    rw [e2] at HZ
    have d2 : ((i : Int) == (k : Int) + 1) = true := by simp; omega
    clear e2 h2
    go_enter Tryd.func19, Tryd.ntmps19
    go_wp2
    go_ret
    exact ⟨ret_bool (by rw [HZ.out]; rfl), rfl⟩
  have e2 : (i == k + 1) = false := by simpa using h2
  rw [e2, Bool.false_or] at HZ
  have d2 : ((i : Int) == (k : Int) + 1) = false := by simp; omega
  clear e2 h2
  by_cases h3 : op = 7
  · subst h3
    have wk : IntKind.i64.wrap ((i : Int) - k) = (i : Int) - k := IntWalk.i64_in _ (by omega)
    have wk2 : IntKind.i64.wrap ((i : Int) - k - 1) = (i : Int) - k - 1 := IntWalk.i64_in _ (by omega)
    go_enter Tryd.func19, Tryd.ntmps19
    go_wp2
    go_ret
    exact ⟨ret_bool (by rw [HZ.out]; rfl), rfl⟩
  · have d3 : (op == 7) = false := by simpa using h3
    rw [d3] at HZ
    clear h3
    go_enter Tryd.func19, Tryd.ntmps19
    go_wp2
    go_ret
    exact ⟨ret_bool (by rw [HZ.out]; rfl), rfl⟩
end Go.Proofs.YtcoclaabainibaaDoor
