/-
  Small laws that the proofs of this family share: rows of bytes as arrays by value, endings, hidden facts. They speak of any program.
-/
import Derived.WalkKit
import Derived.ProofKit
import Derived.OpenShut
import Derived.WalkSpells
import Derived.WalkLawsBesides
import Derived.Laws.Rows
import Derived.Laws.BitsAllLaws
import Derived.Laws.IdiomStrings
import Derived.Deep.AppendLies
import Derived.Deep.RegionLaw
import Derived.Deep.QuietTactic
import Derived.BigQuiet
import Derived.Outline
import Derived.StillTailTactics
namespace Go.Proofs.Ytbdhjkdojgdhbaa
open Go.ChangeShapes Go.WideShapes Go.ChangeAt Go.RowKit
theorem hid {p : Prop} (h : p) : RowKit.Hid p := h
theorem ret_int {k : IntKind} {a b : Int} (h : a = b) : Ending.returned (.int k a) = .returned (.int k b) := by rw [h]
theorem ret_bool {a b : Bool} (h : a = b) : Ending.returned (.bool a) = .returned (.bool b) := by rw [h]
theorem ret_str {a b : ByteArray} (h : a = b) : Ending.returned (.string a) = .returned (.string b) := by rw [h]

/-- The cells of a row of bytes. -/
def u8s (xs : List Int) : Array Value := (xs.map (Value.int .u8)).toArray
theorem u8s_size (xs : List Int) : (u8s xs).size = xs.length := by simp [u8s]
theorem u8s_get (xs : List Int) (k : Nat) (h : k < xs.length) : (u8s xs)[k]? = some (.int .u8 (xs.getD k 0)) := by
  simp [u8s, h]
/-- An array of bytes by value, read at a place. -/
theorem run_index_u8s {P : Program} (w : World) (t e n : Nat) (xs : List Int) (k : Nat) (ht : P.underlying t = some (.array n e)) (he : ∀ w, (sizeOf e).run P w = .ok 1 w) (ha : ∀ w, (isAgg e).run P w = .ok false w) (hn : xs.length = n) (hk : k < n) :
    (Instr.index t (.agg (u8s xs)) (.int .i64 (k : Int))).run P w = .ok (.int .u8 (xs.getD k 0)) w := by
  have := u8s_get xs k (by omega)
  simp [Instr.index, asIntOf, run_underlying ht, he, ha, hk, part, this]
theorem u8s_set (xs : List Int) (k : Nat) (x : Int) : (u8s xs).setIfInBounds k (.int .u8 x) = u8s (xs.set k x) := by
  simp [u8s, List.map_set]
theorem u8s_one (xs : List Int) : (u8s xs).all (·.oneCell') = true := by
  rw [Array.all_eq_true_iff_forall_mem]
  intro v hv
  simp [u8s] at hv
  obtain ⟨n, _, rfl⟩ := hv
  rfl
/-- A block that is known whole: a cell of it. -/
theorem cell_u8s {w : World} {b t : Nat} {xs : List Int} {fr : Nat × Nat} (h : w.heap[b]? = some (.cells (u8s xs) t fr)) (k : Nat) (hk : k < xs.length) : w.cell? ⟨b, k, none⟩ = some (.int .u8 (xs.getD k 0)) := by
  rw [cell_of_row w b k _ t fr h]; exact u8s_get xs k hk
theorem set_u8s {w : World} {b t : Nat} {xs : List Int} (h : w.heap[b]? = some (.cells (u8s xs) t (0, 0))) (k : Nat) (x : Int) : (w.setCell ⟨b, k, none⟩ (.int .u8 x)).heap[b]? = some (.cells (u8s (xs.set k x)) t (0, 0)) := by
  rw [heap_setCell_same w b k _ t _ h, u8s_set]
theorem below_setRow {B : Nat} {a w : World} (h : Below B a w) (g : Nat) (cs : Array Value) (hg : B ≤ g) : Below B a (w.setRow g cs) :=
  h.trans ⟨rfl, rfl, rfl, by simp, fun k hk => setRow_other w g k cs (by omega)⟩
/-- A number of 64 bits without a sign. -/
def U64 (n : Int) : Prop := 0 ≤ n ∧ n ≤ 18446744073709551615
theorem U64.of_wf {n : Int} (h : (Lit.int .u64 n).wf = true) : U64 n := bounds_u64 h
theorem or_add (a b i : Nat) (h : b < 2 ^ i) : (a * 2 ^ i ||| b) = a * 2 ^ i + b := by
  rw [Nat.mul_comm]; exact (Nat.two_pow_add_eq_or_of_lt h a).symm
/-- A byte behind a number: n << 8 | b. -/
theorem or256 {v x : Int} (h0 : 0 ≤ v) (h1 : v < 72057594037927936) (hx0 : 0 ≤ x) (hx : x ≤ 255) : bits .or .u64 (IntKind.u64.wrap (v * 256)) x = v * 256 + x := by
  obtain ⟨a, rfl⟩ := Int.eq_ofNat_of_zero_le h0
  obtain ⟨b, rfl⟩ := Int.eq_ofNat_of_zero_le hx0
  rw [IntWalk.u64_in _ ⟨by omega, by omega⟩]
  have h2 := u64_or_nat (a * 256) b (by omega) (by omega)
  have h3 : (a * 256 ||| b) = a * 256 + b := or_add a b 8 (by omega)
  rw [h3] at h2
  simp only [Int.natCast_mul, Int.natCast_add] at h2
  exact h2
theorem or16 {v x : Int} (h0 : 0 ≤ v) (h1 : v < 16) (hx0 : 0 ≤ x) (hx : x < 16) : bits .or .u8 (IntKind.u8.wrap (v * 16)) x = v * 16 + x := by
  obtain ⟨a, rfl⟩ := Int.eq_ofNat_of_zero_le h0
  obtain ⟨b, rfl⟩ := Int.eq_ofNat_of_zero_le hx0
  rw [IntWalk.u8_in _ ⟨by omega, by omega⟩]
  have h2 := u8_or_nat (a * 16) b (by omega) (by omega)
  have h3 : (a * 16 ||| b) = a * 16 + b := or_add a b 4 (by omega)
  rw [h3] at h2
  simp only [Int.natCast_mul, Int.natCast_add] at h2
  exact h2
/-- A text out of numbers of 0 to 255. -/
def strI (xs : List Int) : ByteArray := ⟨(xs.map fun n => UInt8.ofNat n.toNat).toArray⟩
theorem strI_size (xs : List Int) : (strI xs).size = xs.length := by simp [strI, ByteArray.size]
theorem run_str_of_row {P : Program} (w : World) (src dst e : TypeId) (a : Addr) (cap : Nat) (xs : List Int) (hs : P.underlying src = some (.slice e)) (he : P.underlying e = some (.int .u8)) (hd : P.underlying dst = some .string)
    (hb : ∀ x ∈ xs, 0 ≤ x ∧ x ≤ 255) (hc : ∀ j, j < xs.length → w.cell? (a.add j) = some (.int .u8 (xs.getD j 0))) :
    (convert src dst (.slice (some a) xs.length cap)).run P w = .ok (.string (strI xs)) w := by
  have := run_convert_bytes_back (P := P) w src dst e a cap (xs.map fun n => UInt8.ofNat n.toNat) hs he hd (fun j hj => by
    simp at hj
    rw [hc j hj]
    obtain ⟨h0, h1⟩ := hb xs[j] (List.getElem_mem hj)
    simp [hj]
    omega)
  simpa [strI] using this
/-- A row of the call's own, told as a list of numbers. -/
def OwnB (w : World) (B e : Nat) (v : Value) (xs : List Int) : Prop := w.ownsRow B e 1 v xs.length (xs.map (Value.int .u8))
theorem OwnB.cell {w : World} {B e : Nat} {g cap : Nat} {xs : List Int} {n : Nat} (h : OwnB w B e (.slice (some ⟨g, 0, none⟩) n cap) xs) (j : Nat) (hj : j < xs.length) : w.cell? ((⟨g, 0, none⟩ : Addr).add j) = some (.int .u8 (xs.getD j 0)) := by
  rcases h.2 with ⟨h1, _⟩ | ⟨g', cap', cur, hv, hb, hg, hn, hm, hc, ht⟩
  · cases h1
  · cases hv
    have hadd : (⟨g, 0, none⟩ : Addr).add j = ⟨g, j, none⟩ := by unfold Addr.add; split <;> simp_all
    rw [hadd, cell_of_row w g j cur e (0, 0) hg]
    have h3 : (cur.toList.take (xs.length * 1))[j]? = (xs.map (Value.int .u8))[j]? := by rw [ht]
    rw [List.getElem?_take, if_pos (by omega)] at h3
    simp only [Array.getElem?_toList] at h3
    rw [h3]
    simp [hj]
theorem OwnB.of {w : World} {B e g cap n : Nat} {ys : List Value} {xs : List Int} (h : w.ownsRow B e 1 (.slice (some ⟨g, 0, none⟩) n cap) n ys) (hn : n = xs.length) (hx : ys = xs.map (Value.int .u8)) : OwnB w B e (.slice (some ⟨g, 0, none⟩) xs.length cap) xs := by
  subst hn; subst hx; exact h
theorem below_append {B B' e s n : Nat} {a w w2 : World} {v : Value} {ys : List Value} (hB : Below B a w) (hown : w.ownsRow B' e s v n ys) (hg : w.grownBy w2 v.ownBlock) (hle : B ≤ w.heap.size) (hBB : B ≤ B' := by omega) : Below B a w2 :=
  hB.grown hg hle (fun k hk => Nat.le_trans hBB (hown.lt k hk).1)
theorem one_news (w : World) (B : Nat) (v : Value) (t : TypeId) (hB : B = w.heap.size) : ∀ j u, [v][j]? = some u → (w.alloc (.cells #[v] t)).cell? ((⟨B, 0, none⟩ : Addr).add j) = some u := by
  subst hB
  exact World.news_of_block (heap_alloc_new w (.cells #[v] t))
theorem two_news (w : World) (B : Nat) (u v : Value) (t : TypeId) (hB : B = w.heap.size) : ∀ j x, [u, v][j]? = some x → (w.alloc (.cells #[u, v] t)).cell? ((⟨B, 0, none⟩ : Addr).add j) = some x := by
  subst hB
  exact World.news_of_block (heap_alloc_new w (.cells #[u, v] t))
theorem heap_alloc3_old (w : World) (A B C : Obj) : (((w.alloc A).alloc B).alloc C).heap[w.heap.size]? = some A := by
  rw [heap_alloc_old _ _ (by simp; omega)]; exact heap_alloc2_old _ _ _
theorem heap_alloc3_mid (w : World) (A B C : Obj) : (((w.alloc A).alloc B).alloc C).heap[w.heap.size + 1]? = some B := by
  rw [heap_alloc_old _ _ (by simp)]; exact heap_alloc2_new _ _ _
theorem and15 {x : Int} (h0 : 0 ≤ x) (h1 : x ≤ 255) : bits .and .u8 x 15 = x % 16 := by
  rw [show (15 : Int) = ((15 : Nat) : Int) from rfl, show x = ((x.toNat : Nat) : Int) from by omega, u8_and_nat _ _ (by omega) (by omega)]
  rw [show (15 : Nat) = 2 ^ 4 - 1 from rfl, Nat.and_two_pow_sub_one_eq_mod]
  omega
theorem str_of_own {P : Program} (w : World) (src dst e : TypeId) (hs : P.underlying src = some (.slice e)) (he : P.underlying e = some (.int .u8)) (hd : P.underlying dst = some .string) {B g cap : Nat} {us : List Int} {x : Int}
    (h : w.ownsRow B e 1 (.slice (some ⟨g, 0, none⟩) (us.length + 1) cap) (us.length + 1) (us.map (Value.int .u8) ++ [.int .u8 x])) (hb : ∀ y ∈ us, 0 ≤ y ∧ y ≤ 255) (hx : 0 ≤ x ∧ x ≤ 255) :
    (convert src dst (.slice (some ⟨g, 0, none⟩) (us.length + 1) cap)).run P w = .ok (.string (strI (us ++ [x]))) w := by
  have ho : OwnB w B e (.slice (some ⟨g, 0, none⟩) (us ++ [x]).length cap) (us ++ [x]) := OwnB.of h (by simp) (by simp)
  have h2 := run_str_of_row (P := P) w src dst e ⟨g, 0, none⟩ cap (us ++ [x]) hs he hd (fun y hy => by
    rcases List.mem_append.1 hy with h | h
    · exact hb y h
    · simp at h; subst h; exact hx) (fun j hj => ho.cell j hj)
  rw [List.length_append] at h2
  exact h2
theorem keep_append {B e s n b : Nat} {w w2 : World} {v : Value} {ys : List Value} {x : Option Obj} (h : w.heap[b]? = x) (hx : b < w.heap.size) (hown : w.ownsRow B e s v n ys) (hg : w.grownBy w2 v.ownBlock) (hb : b < B) : w2.heap[b]? = x := by
  rw [hg.block b hx (fun e => by have := (hown.lt b e.symm).1; omega)]; exact h
theorem keep_alloc {B e s n b : Nat} {w w2 : World} {v : Value} {ys : List Value} {x : Option Obj} {o : Obj} (h : w.heap[b]? = x) (hx : b < w.heap.size) (hown : w.ownsRow B e s v n ys) (hg : (w.alloc o).grownBy w2 v.ownBlock) (hb : b < B) : w2.heap[b]? = x :=
  keep_append (by rw [heap_alloc_old _ _ hx]; exact h) (by simp; omega) (hown.alloc o) hg hb
theorem keep_alloc_drew {B e s n b : Nat} {w w2 : World} {v : Value} {ys : List Value} {x : Option Obj} {o : Obj} (h : w.heap[b]? = x) (hx : b < w.heap.size) (hown : w.ownsRow B e s v n ys) (hg : (w.alloc o).drew.grownBy w2 v.ownBlock) (hb : b < B) : w2.heap[b]? = x :=
  keep_alloc (o := o) h hx hown ⟨hg.os, hg.tape, hg.output, hg.size, hg.block⟩ hb
theorem lt_of_heap {w : World} {b : Nat} {x : Obj} (h : w.heap[b]? = some x) : b < w.heap.size := (Array.getElem?_eq_some_iff.1 h).1
theorem cell_u8s_at {w : World} {b t : Nat} {xs : List Int} {fr : Nat × Nat} (h : w.heap[b]? = some (.cells (u8s xs) t fr)) (k : Nat) (x : Int) (hk : xs.getD k 0 = x ∧ k < xs.length) : w.cell? ⟨b, k, none⟩ = some (.int .u8 x) := by
  rw [cell_u8s h k hk.2, hk.1]
/-- A text's bytes as numbers. -/
def sI (s : ByteArray) : List Int := s.data.toList.map fun b => (b.toNat : Int)
theorem sI_len (s : ByteArray) : (sI s).length = s.size := by unfold sI; rw [List.length_map]; exact Array.length_toList
theorem sI_bd (s : ByteArray) (j : Nat) : 0 ≤ (sI s).getD j 0 ∧ (sI s).getD j 0 ≤ 255 := by
  rw [List.getD_eq_getElem?_getD]
  unfold sI
  rw [List.getElem?_map]
  cases s.data.toList[j]? with
  | none => simp
  | some b => have := b.toNat_lt; simp; omega
theorem run_index_sI {P : Program} (w : World) (t : TypeId) (s : ByteArray) (k : IntKind) (i : Nat) (h : P.underlying t = some .string) (hi : i < s.size) :
    (Instr.index t (.string s) (.int k (i : Int))).run P w = .ok (.int .u8 ((sI s).getD i 0)) w := by
  rw [run_index_string _ t s k i h]
  have h2 : (sI s).getD i 0 = (s[i].toNat : Int) := by
    have hd : i < s.data.size := hi
    rw [List.getD_eq_getElem?_getD]
    unfold sI
    rw [List.getElem?_map, Array.getElem?_toList, Array.getElem?_eq_getElem hd]
    rfl
  rw [h2]
  simp [hi]
theorem sI_strI (xs : List Int) (h : ∀ x ∈ xs, 0 ≤ x ∧ x ≤ 255) : sI (strI xs) = xs := by
  unfold sI strI
  simp only [List.map_map]
  refine (List.map_congr_left fun x hx => ?_).trans (List.map_id _)
  have := h x hx
  simp
  omega
theorem strI_inj {xs ys : List Int} (hx : ∀ x ∈ xs, 0 ≤ x ∧ x ≤ 255) (hy : ∀ x ∈ ys, 0 ≤ x ∧ x ≤ 255) (h : strI xs = strI ys) : xs = ys := by
  rw [← sI_strI xs hx, h, sI_strI ys hy]
theorem results_cell_tmp {P : Program} {fn : Func} {p q : Tmp} {ty : TypeId} (h : fn.results = #[.cell p ty, .tmp q]) (tmps : Array Value) (w : World) (g : Nat) (t : TypeId) (cs : Array Value) (fr : Nat × Nat) (d : TypeDesc)
    (hp : tmps.getD p undef = .pointer (some ⟨g, 0, none⟩)) (hg : w.heap[g]? = some (.cells cs t fr))
    (hu : P.underlying ty = some d) (hd : (match d with | .struct _ | .array _ _ => true | _ => false) = true) (hi : (P.info? ty).map (·.size) = some cs.size) :
    (results fn tmps).run P w = .ok (.tuple #[.agg cs, tmps.getD q undef]) w := by
  have hp' : tmps[p]?.getD undef = .pointer (some ⟨g, 0, none⟩) := by simpa using hp
  simp [results, h, hp', asAddr, run_loadVar_row w g t ty cs fr d hg hu hd hi]
theorem or16' {v x : Int} (h0 : 0 ≤ v) (h1 : v < 16) (hx0 : 0 ≤ x) (hx : x < 16) : bits .or .u8 (v * 16) x = v * 16 + x := by
  have := or16 h0 h1 hx0 hx
  rwa [IntWalk.u8_in _ ⟨by omega, by omega⟩] at this
theorem below_drewN {B : Nat} {a w : World} (h : Below B a w) (n : Nat) : Below B a (w.drewN n) := ⟨h.os, h.tape, h.output, h.size, h.block⟩
/-- Sixteen bytes. -/
structure IsG (xs : List Int) : Prop where
  len : xs.length = 16
  lo : ∀ j, 0 ≤ xs.getD j 0
  hi : ∀ j, xs.getD j 0 ≤ 255
end Go.Proofs.Ytbdhjkdojgdhbaa
