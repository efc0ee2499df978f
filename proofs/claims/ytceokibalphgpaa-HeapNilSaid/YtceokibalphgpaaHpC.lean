/-
  What the laws of layer 11 ask of a heap: its calls, told by the plain heap.
-/
import Derived.Test.YtceokibalphgpaaChecked
import Derived.Test.YtceokibalphgpaaHpR
import Derived.Test.YtceokibalphgpaaHpL
import Derived.Test.YtceokibalphgpaaHpH
import Derived.Test.YtceokibalphgpaaArM
namespace Go.Proofs.Ytceokibalphgpaa
open Go Go.ChangeShapes Go.WideShapes Go.ChangeAt Go.RowKit

/-- A heap: its greatest count, its places, its objects, and all handles that it ever gave. -/
structure Hs where
  top : Int
  A : Ar
  L : HL
  G : List Int
/-- What always holds of it. -/
structure HOk (s : Hs) : Prop where
  aok : Ok s.A
  has : ∀ o ∈ s.L, ∃ i sp, Found s.A o.h i sp
  nd : Nd s.L
  gnd : s.G.Nodup
  sub : ∀ o ∈ s.L, o.h ∈ s.G
  tak : ∀ (i : Nat) sp, s.A.L[i]? = some sp → sp.t = true → ∃ o ∈ s.L, o.h = hand i sp.g
  nz : ∀ h ∈ s.G, 1 ≤ h ∧ h ≤ 18446744073709551615
def newOb (h outer : Int) (n : Nat) : Ob := ⟨h, outer, 1, 0, List.replicate n ⟨0, 0⟩, []⟩
def addIn (L : HL) (o h : Int) : HL := if o = 0 then L else L.map fun p => if p.h = o then { p with inners := p.inners ++ [h] } else p
/-- An object is made. -/
inductive MkR (s : Hs) (slots outer : Int) : Hs → Int → Int → Prop
  | arg (h : slots < 0 ∨ 8 < slots) : MkR s slots outer s 0 1
  | stale (h : 0 ≤ slots ∧ slots ≤ 8) (h0 : outer ≠ 0) (hf : fnd s.L outer = none) : MkR s slots outer s 0 2
  | inner (h : 0 ≤ slots ∧ slots ≤ 8) (h0 : outer ≠ 0) (o : Ob) (hf : fnd s.L outer = some o) (ho : o.outer ≠ 0) : MkR s slots outer s 0 1
  | full (h : 0 ≤ slots ∧ slots ≤ 8) (h0 : outer ≠ 0 → ∃ o, fnd s.L outer = some o ∧ o.outer = 0) (hf : Full s.A) : MkR s slots outer s 0 3
  | ok (h : 0 ≤ slots ∧ slots ≤ 8) (h0 : outer ≠ 0 → ∃ o, fnd s.L outer = some o ∧ o.outer = 0) {i g : Nat} {A' : Ar} (hp : Put s.A 0 i g A') :
      MkR s slots outer ⟨s.top, A', addIn s.L outer (hand i g) ++ [newOb (hand i g) outer slots.toNat], s.G ++ [hand i g]⟩ (hand i g) 0
/-- Places are dropped. -/
inductive DrR : Ar → List Int → Ar → Prop
  | nil (A : Ar) : DrR A [] A
  | cons {A A' : Ar} {h : Int} {l : List Int} {i : Nat} {sp : Spot} (hf : Found A h i sp) (r : DrR (dropAt A i sp) l A') : DrR A (h :: l) A'
inductive UpR (s : Hs) (h : Int) : Hs → Int → Int → Prop
  | stale (hw : whl s.L h = none) : UpR s h s 0 2
  | top (w : Ob) (hw : whl s.L h = some w) (hc : w.count = s.top) : UpR s h s 0 4
  | ok (w : Ob) (hw : whl s.L h = some w) (hc : w.count ≠ s.top) : UpR s h { s with L := setc s.L w.h (w.count + 1) } (w.count + 1) 0
inductive DnR (s : Hs) (h : Int) : Hs → List Int → List Int → Int → Prop
  | stale (hf : fnd s.L h = none) : DnR s h s [] [] 2
  | ok (o : Ob) (hf : fnd s.L h = some o) {L' : HL} {A' : Ar} {g f : List Int} (hd : Dn s.L h L' g f) (ha : DrR s.A g A') : DnR s h { s with L := L', A := A' } g f 0
inductive PuR (s : Hs) (h slot : Int) (x : Lk) : Hs → List Int → List Int → Int → Prop
  | stale (hf : fnd s.L h = none) : PuR s h slot x s [] [] 2
  | arg (o : Ob) (hf : fnd s.L h = some o) (hb : slot < 0 ∨ (o.links.length : Int) ≤ slot ∨ x.kind < 0 ∨ 2 < x.kind ∨ (x.kind = 0 ∧ x.h ≠ 0)) : PuR s h slot x s [] [] 1
  | no (o : Ob) (hf : fnd s.L h = some o) (hs : 0 ≤ slot ∧ slot < o.links.length) (hk : x.kind = 1) {n e : Int} (hu : UpR s x.h s n e) (he : e ≠ 0) : PuR s h slot x s [] [] e
  | obj (o : Ob) (hf : fnd s.L h = some o) (hs : 0 ≤ slot ∧ slot < o.links.length) (hk : x.kind = 1) {s1 : Hs} {n : Int} (hu : UpR s x.h s1 n 0) {old : Lk} (ho : o.links[slot.toNat]? = some old) {L' : HL} {A' : Ar} {g f : List Int} (hp : Pu s1.L h slot.toNat x old L' g f) (ha : DrR s.A g A') : PuR s h slot x { s with L := L', A := A' } g f 0
  | oth (o : Ob) (hf : fnd s.L h = some o) (hs : 0 ≤ slot ∧ slot < o.links.length) (hk : (x.kind = 0 ∧ x.h = 0) ∨ x.kind = 2) {old : Lk} (ho : o.links[slot.toNat]? = some old) {L' : HL} {A' : Ar} {g f : List Int} (hp : Pu s.L h slot.toNat x old L' g f) (ha : DrR s.A g A') : PuR s h slot x { s with L := L', A := A' } g f 0
/-- All handles, by rising places. -/
def allA (A : Ar) : List Int := (A.L.zipIdx.filter (·.1.t)).map fun p => hand p.2 p.1.g
theorem allA_nil {s : Hs} (h : HOk s) (h0 : s.L = []) : allA s.A = [] := by
  unfold allA
  rw [List.filter_eq_nil_iff.2, List.map_nil]
  rintro ⟨sp, i⟩ hm ht
  have hi := List.mem_zipIdx_iff_getElem?.1 hm
  obtain ⟨o, ho, _⟩ := h.tak i sp hi ht
  rw [h0] at ho
  cases ho
abbrev u64v : Int → Value := .int .u64
def U32 (n : Int) : Prop := 0 ≤ n ∧ n ≤ 4294967295
def Nm (n : Int) : Prop := -9223372036854775808 ≤ n ∧ n ≤ 9223372036854775807
def Hn (n : Int) : Prop := 0 ≤ n ∧ n ≤ 18446744073709551615
abbrev TU : TypeId := 34
/-- The contracts of a heap's calls, under a way to lay it in memory. -/
structure HeapB (w0 : World) (Rp : (Nat → Prop) → World → Value → Hs → Prop) : Prop where
  ok : ∀ {S : Nat → Prop} {w : World} {p : Value} {s : Hs}, Rp S w p s → HOk s
  lt : ∀ {S : Nat → Prop} {w : World} {p : Value} {s : Hs}, Rp S w p s → ∀ b, S b → b < w.heap.size
  keep : ∀ {S : Nat → Prop} {w w' : World} {p : Value} {s : Hs}, Rp S w p s → (∀ b, S b → w'.heap[b]? = w.heap[b]?) → w.heap.size ≤ w'.heap.size → Rp S w' p s
  ptr : ∀ {S : Nat → Prop} {w : World} {p : Value} {s : Hs}, Rp S w p s → ∃ b, p = .pointer (some ⟨b, 0, none⟩)
  new : ∀ (m t : Int) (w : World), Below w0.heap.size w0 w → Nm m → U32 t → Calls Try.prog 10 #[.int .i64 m, .int .u32 t] w fun e w' => Below w.heap.size w w' ∧
    (if 1 ≤ m ∧ m ≤ 256 ∧ t ≠ 0 then ∃ p S, e = .returned (.tuple #[p, .int .i64 0]) ∧ (∀ b, S b → w.heap.size ≤ b) ∧ Rp S w' p ⟨t, Go.Proofs.Ytceokibalphgpaa.new m.toNat 1, [], []⟩ else e = .returned (.tuple #[.pointer none, .int .i64 1]))
  make : ∀ (S : Nat → Prop) (w : World) (p : Value) (s : Hs) (slots outer : Int), Below w0.heap.size w0 w → Rp S w p s → Nm slots → Hn outer → Calls Try.prog 23 #[p, .int .i64 slots, .int .u64 outer] w fun e w' => Fr S w w' ∧
    ∃ s' h er, e = .returned (.tuple #[.int .u64 h, .int .i64 er]) ∧ MkR s slots outer s' h er ∧ Rp (exS S w w') w' p s'
  up : ∀ (S : Nat → Prop) (w : World) (p : Value) (s : Hs) (h : Int), Below w0.heap.size w0 w → Rp S w p s → Hn h → Calls Try.prog 24 #[p, .int .u64 h] w fun e w' => Fr S w w' ∧
    ∃ s' n er, e = .returned (.tuple #[.int .u32 n, .int .i64 er]) ∧ UpR s h s' n er ∧ Rp (exS S w w') w' p s'
  dn : ∀ (S : Nat → Prop) (w : World) (p : Value) (s : Hs) (h : Int), Below w0.heap.size w0 w → Rp S w p s → Hn h → Calls Try.prog 25 #[p, .int .u64 h] w fun e w' => Fr S w w' ∧
    ∃ s' g f er vg vf, e = .returned (.tuple #[vg, vf, .int .i64 er]) ∧ Told TU u64v w' vg g ∧ Told TU u64v w' vf f ∧ DnR s h s' g f er ∧ Rp (exS S w w') w' p s'
  pu : ∀ (S : Nat → Prop) (w : World) (p : Value) (s : Hs) (h slot : Int) (x : Lk), Below w0.heap.size w0 w → Rp S w p s → Hn h → Nm slot → Nm x.kind → Hn x.h → Calls Try.prog 27 #[p, .int .u64 h, .int .i64 slot, .agg #[.int .i64 x.kind, .int .u64 x.h]] w fun e w' => Fr S w w' ∧
    ∃ s' g f er vg vf, e = .returned (.tuple #[vg, vf, .int .i64 er]) ∧ Told TU u64v w' vg g ∧ Told TU u64v w' vf f ∧ PuR s h slot x s' g f er ∧ Rp (exS S w w') w' p s'
  cn : ∀ (S : Nat → Prop) (w : World) (p : Value) (s : Hs) (h : Int), Below w0.heap.size w0 w → Rp S w p s → Hn h → Calls Try.prog 26 #[p, .int .u64 h] w fun e w' => Below w.heap.size w w' ∧
    e = .returned (.int .u32 (match whl s.L h with | some o => o.count | none => 0))
/-- .. with what the law's own helpers do of it. -/
structure HeapC (w0 : World) (Rp : (Nat → Prop) → World → Value → Hs → Prop) : Prop extends HeapB w0 Rp where
  all : ∀ (S : Nat → Prop) (w : World) (p : Value) (s : Hs) (m : Nat), Below w0.heap.size w0 w → Rp S w p s → m ≤ 100000 → Calls Try.prog 22 #[p, .int .i64 m] w fun e w' => Below w.heap.size w w' ∧
    ∃ v, e = .returned v ∧ Told TU u64v w' v ((allA s.A).take m)
  awk : ∀ (w : World), Below w0.heap.size w0 w → Calls Try.prog 12 #[] w fun e w' => Below w.heap.size w w' ∧ e = .returned (.bool true)
end Go.Proofs.Ytceokibalphgpaa
