/-
  Graphs in memory, read only; the contract of within.
-/
import Derived.Test.YtjmhlmohennknabCyR
namespace Go.Proofs.Ytjmhlmohennknab
open Go Go.ChangeShapes Go.WideShapes Go.ChangeAt Go.RowKit

abbrev TRun : TypeId := 52
abbrev TNode : TypeId := 54
def I64b (x : Int) : Prop := -9223372036854775808 ≤ x ∧ x ≤ 9223372036854775807
/-- Those of a list that are nodes. -/
def wi (n : Nat) (l : List Int) : List Nat := (l.filter fun x : Int => decide (0 ≤ x ∧ x < (n : Int))).map Int.toNat
theorem wi_lt {n : Nat} {l : List Int} : ∀ j ∈ wi n l, j < n := fun j hj => by
  unfold wi at hj
  obtain ⟨x, hx, rfl⟩ := List.mem_map.1 hj
  have := (List.mem_filter.1 hx).2
  simp at this
  omega
theorem wi_take {n : Nat} {l : List Int} {q : Nat} {x : Int} (hx : l[q]? = some x) : wi n (l.take (q + 1)) = wi n (l.take q) ++ if 0 ≤ x ∧ x < n then [x.toNat] else [] := by
  unfold wi
  rw [List.take_add_one, hx, List.filter_append, List.map_append]
  congr 1
  by_cases h : 0 ≤ x ∧ x < n
  · rw [if_pos h]; simp [h]
  · rw [if_neg h]; simp; omega
theorem wi_len_take {n : Nat} {l : List Int} (q : Nat) : (wi n (l.take q)).length ≤ (wi n l).length := by
  unfold wi
  rw [List.length_map, List.length_map]
  exact ((List.take_sublist q l).filter _).length_le
theorem wi_len {n : Nat} {l : List Int} : (wi n l).length ≤ l.length := by
  unfold wi
  rw [List.length_map]
  exact List.length_filter_le _ _
/-- A graph in memory: below B, only read. -/
structure GrW (B : Nat) (W : World) (cv ev : Value) (cs : List Int) (es : List (List Int)) : Prop where
  c : Tl (Value.int .u32) B W cv cs
  e : ∃ a c, ev = .slice a es.length c ∧ es.length ≤ c ∧ c ≤ 9223372036854775807 ∧ (0 < es.length → ∃ b o, a = some ⟨b, o, none⟩ ∧ b < B ∧ ∀ (j : Nat) l, es[j]? = some l → ∃ v, W.cell? ⟨b, o + j, none⟩ = some v ∧ Tl iv B W v l)
  cb : ∀ c ∈ cs, 0 ≤ c ∧ c ≤ 4294967295
  eb : ∀ l ∈ es, ∀ x ∈ l, I64b x
section
variable {B B' : Nat} {w w' : World} {cv ev : Value} {cs : List Int} {es : List (List Int)}
theorem GrW.below (h : GrW B w cv ev cs es) (hB : Below B w w') : GrW B w' cv ev cs es := by
  obtain ⟨a, c, h1, h2, h3, h4⟩ := h.e
  refine ⟨h.c.below hB, ⟨a, c, h1, h2, h3, fun hl => ?_⟩, h.cb, h.eb⟩
  obtain ⟨b, o, h5, h6, h7⟩ := h4 hl
  refine ⟨b, o, h5, h6, fun j l hx => ?_⟩
  obtain ⟨v, h8, h9⟩ := h7 j l hx
  exact ⟨v, (World.cell?_of_block (w := w) (w' := w') (a := ⟨b, o + j, none⟩) (hB.block b h6)).trans h8, h9.below hB⟩
theorem GrW.up (h : GrW B w cv ev cs es) (hB : B ≤ B') : GrW B' w cv ev cs es := by
  obtain ⟨a, c, h1, h2, h3, h4⟩ := h.e
  refine ⟨h.c.up hB, ⟨a, c, h1, h2, h3, fun hl => ?_⟩, h.cb, h.eb⟩
  obtain ⟨b, o, h5, h6, h7⟩ := h4 hl
  refine ⟨b, o, h5, by omega, fun j l hx => ?_⟩
  obtain ⟨v, h8, h9⟩ := h7 j l hx
  exact ⟨v, h8, h9.up hB⟩
end
/-- The plain graph. -/
def grOf (cs : List Int) (es : List (List Int)) (s : Nat → Prop) : Gr := ⟨cs.length, fun i => cs.getD i 0, fun i => wi cs.length (es.getD i []), s⟩
theorem getD_bd {cs : List Int} (h : ∀ c ∈ cs, 0 ≤ c ∧ c ≤ 4294967295) (i : Nat) : 0 ≤ cs.getD i 0 ∧ cs.getD i 0 ≤ 4294967295 := by
  rw [List.getD_eq_getElem?_getD]
  cases hi : cs[i]? with
  | none => simp
  | some x => exact h x (List.mem_of_getElem? hi)
theorem grOf_ok {cs : List Int} {es : List (List Int)} {s : Nat → Prop} (h : ∀ c ∈ cs, 0 ≤ c ∧ c ≤ 4294967295) (hs : ∀ i, s i → i < cs.length) : GrOk (grOf cs es s) :=
  ⟨fun i _ hj => wi_lt (n := cs.length) (l := es.getD i []) _ hj, hs, fun i => getD_bd h i⟩
/-- All places of all lists. -/
def totE (es : List (List Int)) : Nat := (es.map List.length).sum
theorem totE_nil : totE [] = 0 := rfl
theorem totE_succ (es : List (List Int)) (m : Nat) : totE (es.take (m + 1)) = totE (es.take m) + (es.getD m []).length := by
  unfold totE
  rw [List.take_add_one, List.map_append, List.sum_append, List.getD_eq_getElem?_getD]
  cases es[m]? <;> simp
theorem tot_wi (n : Nat) (es : List (List Int)) (m : Nat) : tot (fun i => wi n (es.getD i [])) m ≤ totE (es.take m) := by
  induction m with
  | zero => exact Nat.zero_le _
  | succ m ih =>
    have h1 := wi_len (n := n) (l := es.getD m [])
    have h2 := totE_succ es m
    show tot (fun i => wi n (es.getD i [])) m + (wi n (es.getD m [])).length ≤ _
    omega
theorem totE_take (es : List (List Int)) (m : Nat) : totE (es.take m) ≤ totE es := by
  have h : totE es = totE (es.take m) + totE (es.drop m) := by
    unfold totE
    rw [← List.sum_append, ← List.map_append, List.take_append_drop]
  omega
theorem tot_grOf (cs : List Int) (es : List (List Int)) (s : Nat → Prop) : tot (grOf cs es s).e (grOf cs es s).n ≤ totE es :=
  Nat.le_trans (tot_wi cs.length es cs.length) (totE_take _ _)
set_option maxRecDepth 100000 in
set_option maxHeartbeats 2000000 in
theorem within_any (w : World) (p n nc : Nat) (na : Option Addr) (v : Value) (l : List Int) (hp : w.cell? ⟨p, 0, none⟩ = some (.slice na n nc)) (hl : Tl iv w.heap.size w v l) (hlb : (wi n l).length ≤ 1000000) :
    Calls Try.prog 23 #[.pointer (some ⟨p, 0, none⟩), v] w fun e w' => ∃ v', e = .returned v' ∧ PI w w' v' (wi n l) := by
  obtain ⟨a, c, rfl, hc1, hc2, hA⟩ := hl.ex
  have hpl := World.block_lt_of_cell? w _ hp
  have HP0 : RowKit.Hid (PI w w (.slice none 0 0) (wi n (l.take 0))) := hid (PI.new w)
  have HLB := hid hlb
  have HA := hid hA
  obtain ⟨N, hN⟩ : ∃ N, N = l.length := ⟨_, rfl⟩
  rw [← hN] at hc1 HA ⊢
  have HN := hid hN
  have HP := hid hp
  have HPL := hid hpl
  clear hl hlb hA hN hpl hp
  go_enter Try.func23, Try.ntmps23
  go_wp2_with fail
  go_loopw [10, 5] (fun i v wr => ∃ q : Nat, q ≤ N ∧ i = .int .i64 q ∧ RowKit.Hid (PI w wr v (wi n (l.take q)))) (fun i _ _ => N - (intOf i).toNat)
  case atStart => exact ⟨0, by omega, rfl, HP0⟩
  case round =>
    obtain ⟨q, hq, rfl, HR⟩ := hrel
    by_cases hqn : q < N
    · have hx : l[q]? = some (l[q]'(by rw [← HN.out]; exact hqn)) := List.getElem?_eq_getElem _
      generalize l[q]'(by rw [← HN.out]; exact hqn) = x at hx
      obtain ⟨b, o, rfl, hb, hcell⟩ := HA.out (by omega)
      have cx : wr.cell? ⟨b, o + q, none⟩ = some (.int .i64 x) := (World.cell?_of_block (w := w) (w' := wr) (a := ⟨b, o + q, none⟩) (HR.out.2.block b hb)).trans (hcell q x hx)
      have cp : wr.cell? ⟨p, 0, none⟩ = some (.slice na n nc) := (World.cell?_of_block (w := w) (w' := wr) (a := ⟨p, 0, none⟩) (HR.out.2.block p HPL.out)).trans HP.out
      have HT := hid (wi_take (n := n) hx)
      have HTL := hid (Nat.le_trans (wi_len_take (n := n) (l := l) q) HLB.out)
      clear hx hcell hb
      by_cases hx0 : 0 ≤ x
      · obtain ⟨y, rfl⟩ := Int.eq_ofNat_of_zero_le hx0
        by_cases hxn : y < n
        · go_wp2_with (first
            | (at_builtin; refine wpList_pushI (o := ⟨some 28, _, _, _, _, _⟩) rfl (.tmp 25) (.tmp 27) rfl w.heap.size _ _ y rfl (OwI.alloc HR.out.1 _) wr.heap.size 1 rfl (by rw [cell_of_row _ _ 0 _ _ _ (heap_alloc_new wr _)]; rfl) HTL.out (by have := HR.out.2.size; simp; omega) ?_; intro v5 w5 hown5 hgrow5 hat5; have HO5 := hid hown5; have HG5 := hid hgrow5; clear hown5 hgrow5 hat5)
            | fail)
          have h5 := HR.out.push HO5.out HG5.out
          have ht := HT.out
          rw [if_pos (by omega), Int.toNat_natCast] at ht
          rw [← ht] at h5
          have HE5 := hid h5
          clear h5 ht
          go_roundw
          case rel => exact ⟨q + 1, by omega, by go_num, HE5⟩
          case measure => simp [intOf]; omega
        · go_wp2_with fail
          have ht := HT.out
          rw [if_neg (by omega), List.append_nil] at ht
          go_roundw
          case rel => exact ⟨q + 1, by omega, by go_num, hid (by rw [ht]; exact HR.out)⟩
          case measure => simp [intOf]; omega
      · go_wp2_with fail
        have ht := HT.out
        rw [if_neg (by omega), List.append_nil] at ht
        go_roundw
        case rel => exact ⟨q + 1, by omega, by go_num, hid (by rw [ht]; exact HR.out)⟩
        case measure => simp [intOf]; omega
    · obtain rfl : q = N := by omega
      have hr := HR.out
      rw [List.take_of_length_le (by rw [HN.out]; omega)] at hr
      have HR2 := hid hr
      clear hr HR
      go_wp2
      go_ret
      exact ⟨_, rfl, HR2.out⟩
end Go.Proofs.Ytjmhlmohennknab
