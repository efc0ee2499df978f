/- HqC HqD HqE in one -/
import Derived.Test.YtmkajdfajcodjaaHqB
import Derived.Laws.MakeOwn
namespace Go.Proofs.Ytmkajdfajcodjaa
open Go Go.ChangeShapes Go.WideShapes Go.ChangeAt Go.RowKit

/-- A heap at a pointer, in a set of blocks. -/
def RpH (S : Nat → Prop) (w : World) (v : Value) (s : Hs) : Prop :=
  ∃ p pa Sa AA F B, v = .pointer (some ⟨p, 0, none⟩) ∧ HpW w p pa Sa AA F B s.top s.L ∧ s.A = er AA ∧ HsI s ∧ (∀ k, k < w.heap.size → F k ≠ outL → S k) ∧ ∀ k, S k → k < w.heap.size
section
variable {w w' : World} {p pa : Nat} {Sa Sa' : Nat → Prop} {AA AA' : Ar} {F F' : Nat → Lab} {B : Int → Nat} {top : Int} {L : HL} {fp : Nat → Prop}
theorem HpW.relab (h : HpW w p pa Sa AA F B top L) (hF : ∀ k, k < w.heap.size → F' k = F k) : HpW w p pa Sa AA F' B top L :=
  h.fr (fp := fun _ => False) (Fr.refl _ _) (fun e => e) (fun _ _ e => e) (fun _ _ _ _ _ e => e) hF
theorem RpH.keep {S : Nat → Prop} {v : Value} {s : Hs} (h : RpH S w v s) (hb : ∀ b, S b → w'.heap[b]? = w.heap[b]?) (hsz : w.heap.size ≤ w'.heap.size) : RpH S w' v s := by
  obtain ⟨p, pa, Sa, AA, F, B, rfl, h1, h2, h3, h4, h5⟩ := h
  -- the same cells, but a world of its own: only blocks count
  have hS : ∀ k, k < w.heap.size → F k ≠ outL → w'.heap[k]? = w.heap[k]? := fun k hk hF => hb k (h4 k hk hF)
  have own : ∀ {B e size n} {v : Value} {xs : List Value}, w.ownsRow B e size v n xs → (∀ k, v.ownBlock = some k → F k ≠ outL) → w'.ownsRow B e size v n xs := by
    intro B e size n v xs ho hv
    refine ⟨ho.1, ?_⟩
    rcases ho.2 with hn | ⟨g, cap, cur, rfl, hb, hgg, rest⟩
    · exact .inl hn
    · refine .inr ⟨g, cap, cur, rfl, hb, ?_, rest⟩
      rw [hS g (Array.getElem?_eq_some_iff.1 hgg).1 (hv g rfl)]
      exact hgg
  have lab : ∀ k l j, F k = (l, j) → -1 ≤ l → F k ≠ outL := fun k l j e hl k2 => by
    rw [e] at k2
    have := congrArg Prod.fst k2
    simp only [outL] at this
    omega
  refine ⟨p, pa, Sa, AA, nw F w.heap.size outL, B, rfl, ⟨?_, ?_, ?_, ?_, ?_, h1.pl, h1.co⟩, h2, h3, fun k hk hF => ?_, fun k hk => Nat.lt_of_lt_of_le (h5 k hk) hsz⟩
  · rw [hS p h1.lt (lab p _ _ h1.fp (by omega))]; exact h1.hp
  · obtain ⟨cv, fv, a1, a2, a3, a4, a5, a6⟩ := h1.ar
    refine ⟨cv, fv, ⟨?_, own a1.hc (fun k hk => lab k _ _ (h1.fa k (a4 k hk)) (by omega)), own a1.hf (fun k hk => lab k _ _ (h1.fa k (a5 k hk)) (by omega)), a1.d1, a1.d2, a1.d3⟩, a2, a3, a4, a5, fun k hk => Nat.lt_of_lt_of_le (a6 k hk) hsz⟩
    rw [hS pa (h1.ar.lt pa a3) (lab pa _ _ (h1.fa pa a3) (by omega))]; exact a1.hp
  · intro k hk
    rw [nw_lt (h1.ar.lt k hk)]; exact h1.fa k hk
  · rw [nw_lt h1.lt]; exact h1.fp
  · intro o ho
    have hz := (h1.bd ho).1
    obtain ⟨sv, iv, c, hb⟩ := h1.ob o ho
    refine ⟨sv, iv, c, ?_, own hb.hs (fun k hk => lab k _ _ (hb.fs k hk) (by omega)), own hb.hi (fun k hk => lab k _ _ (hb.fi k hk) (by omega)), hb.hc, ?_, fun k hk => ?_, fun k hk => ?_⟩
    · rw [hS _ hb.lt (lab _ _ _ hb.fb (by omega))]; exact hb.hb
    · rw [nw_lt hb.lt]; exact hb.fb
    · rw [nw_lt (hb.hs.lt k hk).2]; exact hb.fs k hk
    · rw [nw_lt (hb.hi.lt k hk).2]; exact hb.fi k hk
  · by_cases e : k < w.heap.size
    · rw [nw_lt e] at hF; exact h4 k e hF
    · rw [nw_ge (by omega)] at hF; exact absurd rfl hF
/-- A new object's blocks, and the arena's. -/
def addF (F : Nat → Lab) (n sb ob : Nat) (h : Int) : Nat → Lab := fun k => if k < n then F k else if k = sb then (h, 1) else if k = ob then (h, 0) else (0, 0)
/-- A new object, laid behind the others. -/
theorem HpW.add (h : HpW w p pa Sa AA F B top L) (hA : Ok AA) {i g n sb ob : Nat} {outer c : Int} (hfr : Fr Sa w w') (ha : InS Sa' w' pa AA') (hp : Put AA ((ob + 1 : Nat) : Int) i g AA') (hn : ∀ o ∈ L, o.h ≠ hand i g)
    (hs1 : w.heap.size ≤ sb) (hs2 : w.heap.size ≤ ob) (hne : sb ≠ ob) (hSa : ∀ k, Sa' k → Sa k ∨ (w.heap.size ≤ k ∧ k ≠ sb ∧ k ≠ ob))
    (hb : w'.heap[ob]? = some (.cells #[.slice (some ⟨sb, 0, none⟩) n n, .int .i64 0, .int .u64 outer, .slice none 0 0, .int .u32 c] 114 (0, 0)))
    (hs : w'.ownsRow 0 67 2 (.slice (some ⟨sb, 0, none⟩) n n) n (lkv (List.replicate n ⟨0, 0⟩))) (hc : outer = 0 → c = 1) :
    HpW w' p pa Sa' AA' (addF F w.heap.size sb ob (hand i g)) (fun x => if x = hand i g then ob else B x) top (L ++ [newOb (hand i g) outer n]) := by
  have hlo : ∀ k, k < w.heap.size → addF F w.heap.size sb ob (hand i g) k = F k := fun k hk => if_pos hk
  have hsb : addF F w.heap.size sb ob (hand i g) sb = (hand i g, 1) := by unfold addF; rw [if_neg (by omega)]; exact if_pos rfl
  have hob : addF F w.heap.size sb ob (hand i g) ob = (hand i g, 0) := by unfold addF; rw [if_neg (by omega), if_neg (fun e => hne e.symm)]; exact if_pos rfl
  have hel : ∀ k, w.heap.size ≤ k → k ≠ sb → k ≠ ob → addF F w.heap.size sb ob (hand i g) k = (0, 0) := fun k h1 h2 h3 => by unfold addF; rw [if_neg (by omega), if_neg h2, if_neg h3]
  generalize addF F w.heap.size sb ob (hand i g) = F' at *
  have nosa : ∀ k l j, F k = (l, j) → l ≠ 0 → ¬ Sa k := fun k l j e hl hk => by
    rw [h.fa k hk] at e
    exact hl (congrArg Prod.fst e).symm
  refine ⟨by rw [hfr.block p h.lt (nosa p _ _ h.fp (by omega))]; exact h.hp, ha, ?_, by rw [hlo p h.lt]; exact h.fp, ?_, ?_, ?_⟩
  · intro k hk
    rcases hSa k hk with e | ⟨e1, e2, e3⟩
    · rw [hlo k (h.ar.lt k e)]; exact h.fa k e
    · exact hel k e1 e2 e3
  · intro o ho
    rcases List.mem_append.1 ho with ho | ho
    · rw [if_neg (hn o ho)]
      have := h.bd ho
      exact (h.ob o ho).fr hfr (fun k j e => nosa k _ j e (by omega)) hlo
    · simp at ho
      subst ho
      simp only [newOb, if_pos]
      refine ⟨_, _, c, hb, by simpa using hs, World.ownsRow_nil _ _ _ _, hc, hob, fun k hk => ?_, fun k hk => ?_⟩
      · simp [Value.ownBlock] at hk
        subst hk
        exact hsb
      · simp [Value.ownBlock] at hk
  · intro o ho
    rcases List.mem_append.1 ho with ho | ho
    · obtain ⟨j, sp, h1, h2, h3, h4⟩ := h.pl o ho
      rw [if_neg (hn o ho)]
      refine ⟨j, sp, ?_, h2, h3, h4⟩
      have hji : j ≠ i := fun e => by
        subst e
        cases hp with
        | again G _ s2 hF hs2 =>
          rw [h1] at hs2
          cases hs2
          obtain ⟨s3, e3, e4⟩ := hA.fr j (by rw [hF]; simp)
          rw [h1] at e3
          cases e3
          rw [h2] at e4; cases e4
        | fresh => simp at h1
      exact (hp.at hA j sp h2).2 (.inl ⟨h1, hji⟩)
    · simp at ho
      subst ho
      exact ⟨i, _, (hp.at hA i ⟨((ob + 1 : Nat) : Int), g, true⟩ rfl).2 (.inr ⟨rfl, rfl⟩), rfl, rfl, by simp [newOb]⟩
  · intro j sp h1 h2
    rcases (hp.at hA j sp h2).1 h1 with ⟨h3, _⟩ | ⟨rfl, rfl⟩
    · obtain ⟨o, ho, e⟩ := h.co j sp h3 h2
      exact ⟨o, List.mem_append_left _ ho, e⟩
    · exact ⟨_, List.mem_append_right _ (List.mem_singleton.2 rfl), rfl⟩
end
theorem infoU0 : (Try.prog.info? TU).map (fun i => (i.zero, i.size, i.bytes)) = some (some (.int .u64 0), 1, 8) := by kernel_rfl
theorem infoLkB : (Try.prog.info? 67).map (fun i => (i.zero, i.size, i.bytes)) = some (some (.agg #[.int .i64 0, .int .u64 0]), 2, 16) := by kernel_rfl
theorem made_lkv (n : Nat) : (madeCells (Value.agg #[.int .i64 0, .int .u64 0]).cells (n * 2)).toList = lkv (List.replicate n ⟨0, 0⟩) := by
  unfold madeCells
  rw [Array.toList_map, Array.toList_range]
  induction n with
  | zero => rfl
  | succ n ih =>
    rw [show (n + 1) * 2 = n * 2 + 1 + 1 by omega, List.range_succ, List.range_succ, List.map_append, List.map_append, ih, List.replicate_succ', lkv_app]
    have e0 : (n * 2) % 2 = 0 := by omega
    have e1 : (n * 2 + 1) % 2 = 1 := by omega
    simp [lkv, Value.cells, e0, e1]
section
/-- New. -/
theorem HNew_any (m t : Int) (w : World) (_hm : Nm m) (ht : U32 t) : Calls Try.prog 10 #[.int .i64 m, .int .u32 t] w fun e w' => Below w.heap.size w w' ∧
    (if 1 ≤ m ∧ m ≤ 256 ∧ t ≠ 0 then ∃ p S, e = .returned (.tuple #[p, .int .i64 0]) ∧ (∀ b, S b → w.heap.size ≤ b) ∧ RpH S w' p ⟨t, Go.Proofs.Ytmkajdfajcodjaa.new m.toNat 1, [], []⟩ else e = .returned (.tuple #[.pointer none, .int .i64 1])) := by
  by_cases h1 : m < 1
  · simp only [if_neg (show ¬ (1 ≤ m ∧ m ≤ 256 ∧ t ≠ 0) by omega)]
    have d1 : decide (m < 1) = true := by simpa using h1
    clear h1 ht
    go_enter Try.func10, Try.ntmps10
    go_wp2
    go_ret2
    exact ⟨Below.refl _ _, rfl⟩
  · have d1 : decide (m < 1) = false := by simpa using h1
    by_cases h2 : 256 < m
    · simp only [if_neg (show ¬ (1 ≤ m ∧ m ≤ 256 ∧ t ≠ 0) by omega)]
      have d2 : decide (256 < m) = true := by simpa using h2
      clear h1 h2 ht
      go_enter Try.func10, Try.ntmps10
      go_wp2
      go_ret2
      exact ⟨Below.refl _ _, rfl⟩
    · have d2 : decide (256 < m) = false := by simpa using h2
      by_cases h3 : t = 0
      · subst h3
        simp only [if_neg (show ¬ (1 ≤ m ∧ m ≤ 256 ∧ (0 : Int) ≠ 0) by omega)]
        clear h1 h2 ht
        go_enter Try.func10, Try.ntmps10
        go_wp2
        go_ret2
        exact ⟨Below.refl _ _, rfl⟩
      · simp only [if_pos (show 1 ≤ m ∧ m ≤ 256 ∧ t ≠ 0 from ⟨by omega, by omega, h3⟩)]
        have d3 : (t == 0) = false := by simpa using h3
        have hA := New_arena m 1 w (by omega) (by omega) (by omega) (by omega)
        have HA := hid hA
        have H1 := hid h1
        have H2 := hid h2
        have H3 := hid h3
        have HT := hid ht
        clear hA h1 h2 h3 ht
        go_enter Try.func10, Try.ntmps10
        go_wp2_with fail
        refine HA.out.mono ?_
        rintro e w1 ⟨rfl, hw1⟩
        have HW := hid hw1
        clear hw1
        go_wp2
        go_ret2
        have h1 := H1.out
        have h2 := H2.out
        have h3 := H3.out
        have ht := HT.out
        unfold U32 at ht
        have hw1 := HW.out
        obtain ⟨w2, hw2⟩ : ∃ w2, w2 = w1.alloc (.cells #[.pointer (some ⟨w.heap.size, 0, none⟩), .int .u32 t] 86) := ⟨_, rfl⟩
        rw [← hw2]
        have s1 : w1.heap.size = w.heap.size + 1 := by rw [hw1]; simp
        have hb2 : Below w.heap.size w w2 := by rw [hw2, hw1]; exact ((Below.refl _ _).alloc (Nat.le_refl _) _).alloc (by simp) _
        have hpa : w2.heap[w.heap.size]? = some (.cells #[.int .i64 m, .int .u32 1, .slice none 0 0, .slice none 0 0, .int .i64 0] 128 (0, 0)) := by
          rw [hw2, Below.heap_alloc w1 _ _ (show w.heap.size < w1.heap.size by omega), hw1]; exact heap_alloc_new _ _
        have hp : w2.heap[w1.heap.size]? = some (.cells #[.pointer (some ⟨w.heap.size, 0, none⟩), .int .u32 t] 86 (0, 0)) := by
          rw [hw2]; exact heap_alloc_new _ _
        have s2 : w2.heap.size = w.heap.size + 2 := by rw [hw2]; simp; omega
        have hm : ((m.toNat : Nat) : Int) = m := by omega
        refine ⟨hb2, _, fun k => w.heap.size ≤ k ∧ k < w2.heap.size, rfl, fun b hb => hb.1, w1.heap.size, w.heap.size, fun k => k = w.heap.size, Go.Proofs.Ytmkajdfajcodjaa.new m.toNat 1,
          fun k => if k = w.heap.size then (0, 0) else if k = w1.heap.size then (-1, 0) else outL, fun _ => 0, rfl, ⟨hp, ?_, ?_, ?_, by simp, by simp, by simp [Go.Proofs.Ytmkajdfajcodjaa.new]⟩, rfl, HsI.new (by omega) (by omega), ?_, fun k hk => hk.2⟩
        · refine ⟨.slice none 0 0, .slice none 0 0, ⟨?_, World.ownsRow_nil _ _ _ _, World.ownsRow_nil _ _ _ _, by simp [Value.ownBlock], by simp [Value.ownBlock], by simp [Value.ownBlock]⟩, new_ok (by omega) (by omega), rfl, by simp [Value.ownBlock], by simp [Value.ownBlock], fun k hk => by omega⟩
          have : cnt (Go.Proofs.Ytmkajdfajcodjaa.new m.toNat 1).L = 0 := rfl
          rw [this]
          show w2.heap[w.heap.size]? = some (.cells #[.int .i64 ((m.toNat : Nat) : Int), .int .u32 1, .slice none 0 0, .slice none 0 0, .int .i64 0] 128 (0, 0))
          rw [hm]
          exact hpa
        · intro k hk
          simp [hk]
        · show (if w1.heap.size = w.heap.size then ((0, 0) : Lab) else if w1.heap.size = w1.heap.size then (-1, 0) else outL) = (-1, 0)
          rw [if_neg (by omega)]
          exact if_pos rfl
        · intro k hk hF
          refine ⟨?_, hk⟩
          by_cases e : k = w.heap.size
          · omega
          · by_cases e2 : k = w1.heap.size
            · omega
            · simp only at hF
              rw [if_neg e, if_neg e2] at hF
              exact absurd rfl hF
end
end Go.Proofs.Ytmkajdfajcodjaa

namespace Go.Proofs.Ytmkajdfajcodjaa
open Go Go.ChangeShapes Go.WideShapes Go.ChangeAt Go.RowKit

theorem exs_lab {S : Nat → Prop} {w w' : World} {F F' : Nat → Lab} (h4 : ∀ k, k < w.heap.size → F k ≠ outL → S k) (hF : ∀ k, k < w.heap.size → F' k = F k) : ∀ k, k < w'.heap.size → F' k ≠ outL → exS S w w' k := fun k hk hl => by
  by_cases e : k < w.heap.size
  · exact .inl (h4 k e (by rw [← hF k e]; exact hl))
  · exact .inr ⟨by omega, hk⟩
theorem exs_lt {S : Nat → Prop} {w w' : World} (h5 : ∀ k, S k → k < w.heap.size) (hs : w.heap.size ≤ w'.heap.size) : ∀ k, exS S w w' k → k < w'.heap.size := fun k hk => by
  rcases hk with hk | hk
  · have := h5 k hk; omega
  · exact hk.2
theorem RpH.ex {S : Nat → Prop} {w w' : World} {v : Value} {s : Hs} (h : RpH S w' v s) (h5 : ∀ k, S k → k < w.heap.size) (hs : w.heap.size ≤ w'.heap.size) : RpH (exS S w w') w' v s := by
  obtain ⟨p, pa, Sa, AA, F, B, h0, h1, h2, h3, h4, _⟩ := h
  exact ⟨p, pa, Sa, AA, F, B, h0, h1, h2, h3, fun k hk hl => .inl (h4 k hk hl), exs_lt h5 hs⟩
theorem RpH.below {S : Nat → Prop} {w w' : World} {v : Value} {s : Hs} (h : RpH S w v s) (hb : Below w.heap.size w w') : RpH S w' v s := by
  have h5 : ∀ k, S k → k < w.heap.size := by obtain ⟨_, _, _, _, _, _, _, _, _, _, _, h5⟩ := h; exact h5
  exact h.keep (fun b hS => hb.block b (h5 b hS)) hb.size
section
variable {w : World} {p pa : Nat} {Sa : Nat → Prop} {AA : Ar} {F : Nat → Lab} {B : Int → Nat} {top : Int} {L : HL}
theorem Put_p (h : HpW w p pa Sa AA F B top L) {ob i g : Nat} {AA' : Ar} (hp : Put AA ((ob + 1 : Nat) : Int) i g AA') :
    Calls Try.prog 48 #[.pointer (some ⟨pa, 0, none⟩), .pointer (some ⟨ob, 0, none⟩)] w (PutPost Sa w pa AA' i g) :=
  Put_some Sa w pa AA AA' i g ((ob + 1 : Nat) : Int) h.ar hp
theorem Put_pf (h : HpW w p pa Sa AA F B top L) {ob : Nat} (hF : Full AA) :
    Calls Try.prog 48 #[.pointer (some ⟨pa, 0, none⟩), .pointer (some ⟨ob, 0, none⟩)] w fun e w' => e = .returned (.tuple #[.int .u64 0, .int .i64 3]) ∧ Fr (fun _ => False) w w' :=
  Put_full Sa w pa AA ((ob + 1 : Nat) : Int) h.ar hF
/-- An inner's end: the whole has it among its own. -/
def MadePost (w : World) (p pa : Nat) (AA' : Ar) (F : Nat → Lab) (top : Int) (L : HL) (outer : Int) (n : Nat) (hd : Int) (e : Ending) (w' : World) : Prop :=
  e = .returned (.tuple #[.int .u64 hd, .int .i64 0]) ∧ ∃ Sa' F' B', HpW w' p pa Sa' AA' F' B' top (addIn L outer hd ++ [newOb hd outer n]) ∧ (∀ k, k < w.heap.size → F' k = F k) ∧ Fr (fun k => F k = (0, 0) ∨ (outer ≠ 0 ∧ (F k = (outer, 0) ∨ F k = (outer, 2)))) w w'
set_option maxRecDepth 100000 in
set_option maxHeartbeats 1000000 in
theorem makeInner_ok (h : HpW w p pa Sa AA F B top L) (hi : HIn top L) {x : Ob} (hx : x ∈ L) (hx0 : x.outer = 0) {i g n sb ob : Nat} {AA' : Ar} (hp : Put AA ((ob + 1 : Nat) : Int) i g AA') (hn : ∀ o ∈ L, o.h ≠ hand i g)
    {w0 : World} (h0 : Below w0.heap.size w0 w) (hF0 : HpW w0 p pa Sa AA F B top L) (hsb : w0.heap.size ≤ sb) (hob : w0.heap.size ≤ ob) (hne : sb ≠ ob) (hin : x.inners.length ≤ 65536)
    (hb : w.heap[ob]? = some (.cells #[.slice (some ⟨sb, 0, none⟩) n n, .int .i64 0, .int .u64 x.h, .slice none 0 0, .int .u32 0] 114 (0, 0)))
    (hs : w.ownsRow 0 67 2 (.slice (some ⟨sb, 0, none⟩) n n) n (lkv (List.replicate n ⟨0, 0⟩))) :
    Calls Try.prog 49 #[.pointer (some ⟨p, 0, none⟩), .pointer (some ⟨ob, 0, none⟩)] w (MadePost w0 p pa AA' F top L x.h n (hand i g)) := by
  have hA := h.ar.ok
  have hzx := h.bd hx
  obtain ⟨sv, iv, c, hbx⟩ := h.ob x hx
  have co2 : w.cell? ⟨ob, 2, none⟩ = some (.int .u64 x.h) := by rw [cell_of_row w ob 2 _ _ _ hb]; rfl
  have cx2 := hbx.c2
  rw [hx0] at cx2
  have cp0 := h.c0
  have hobl : ob < w.heap.size := (Array.getElem?_eq_some_iff.1 hb).1
  have hsbl : sb < w.heap.size := (hs.lt sb rfl).2
  have HF := hid (find_some h hx)
  have HP := hid (Put_p h hp)
  have HH := hid h
  have H0 := hid h0
  have HF0 := hid hF0
  have HI := hid hi
  have HX := hid hx
  have HX0 := hid hx0
  have HPP := hid hp
  have HN := hid hn
  have HB := hid hb
  have HS := hid hs
  have HBX := hid hbx
  have HA := hid hA
  clear h h0 hF0 hi hx hx0 hp hn hb hs hbx hA
  obtain ⟨xh, hxh⟩ : ∃ xh, xh = x.h := ⟨_, rfl⟩
  rw [← hxh] at co2 cx2 HF hzx ⊢
  have HXH := hid hxh
  clear hxh
  go_enter Try.func49, Try.ntmps49
  go_wp2_with fail
  refine HF.out.mono ?_
  rintro e w1 ⟨rfl, rfl⟩
  go_wp2_with fail
  refine HP.out.mono ?_
  rintro e w3 ⟨rfl, ha3, hf3⟩
  have h0sz := H0.out.size
  have hf03 : Fr Sa w0 w3 := (Fr.of_below H0.out).trans hf3 (fun j hj _ => hj)
  have hb3 : w3.heap[ob]? = some (.cells #[.slice (some ⟨sb, 0, none⟩) n n, .int .i64 0, .int .u64 xh, .slice none 0 0, .int .u32 0] 114 (0, 0)) := by
    rw [hf3.block ob hobl (fun e => by have := HF0.out.ar.lt ob e; omega), HXH.out]; exact HB.out
  have hs3 := hf3.owns HS.out (fun k hk e => by
    simp [Value.ownBlock] at hk
    subst hk
    have := HF0.out.ar.lt _ e
    omega)
  have hadd := HF0.out.add HA.out (n := n) (c := 0) hf03 ha3 HPP.out HN.out hsb hob hne (fun k hk => by
    rcases hk with hk | hk
    · exact .inl hk
    · exact .inr ⟨by omega, by omega, by omega⟩) hb3 hs3 (fun e => by omega)
  have hF1 : ∀ k, k < w0.heap.size → addF F w0.heap.size sb ob (hand i g) k = F k := fun k hk => if_pos hk
  generalize addF F w0.heap.size sb ob (hand i g) = F1 at hadd hF1
  obtain ⟨B1, hB1⟩ : ∃ B1, B1 = fun y => if y = hand i g then ob else B y := ⟨_, rfl⟩
  rw [← hB1] at hadd
  have hB1x : B1 xh = B xh := by rw [hB1, HXH.out]; exact if_neg (HN.out x HX.out)
  obtain ⟨s3, i3, c3, hb3x⟩ := hadd.ob x (List.mem_append_left _ HX.out)
  have hnd : Nd (L ++ [newOb (hand i g) xh n]) := by
    unfold Nd
    rw [List.map_append, List.nodup_append]
    refine ⟨HI.out.nd, by simp, fun a ha b hb => ?_⟩
    obtain ⟨o, ho, rfl⟩ := List.mem_map.1 ha
    simp [newOb] at hb
    subst hb
    exact HN.out o ho
  have hrow := hb3x.hi
  obtain ⟨ia, ik, rfl⟩ := own_form hrow
  have cx3 := hb3x.c3
  have zx3 := hb3x.fz 3
  rw [← HXH.out, hB1x] at cx3 zx3
  have hbl : B xh < w3.heap.size := by have := hb3x.lt; rw [← HXH.out, hB1x] at this; exact this
  have hnb : (Value.slice ia x.inners.length ik).ownBlock ≠ some (B xh) := fun e => by
    have h1 := hb3x.fi _ e
    have h2 := hb3x.fb
    rw [← HXH.out, hB1x, h1] at h2
    cases h2
  obtain ⟨j0, hj0, hz0, hz1, hz2⟩ := info_parts infoU0
  have J0 := hid hj0
  have Z0 := hid hz0
  have Z1 := hid hz1
  have Z2 := hid hz2
  have HADD := hid hadd
  have HF1 := hid hF1
  have HB3 := hid hb3x
  have HND := hid hnd
  have HR := hid hrow
  have HNB := hid hnb
  have HF03 := hid hf03
  have HBX1 := hid hB1x
  generalize hm : x.inners.length = m at hin cx3 HR hnb HNB HB3
  have HM := hid hm
  clear hadd hF1 hb3x hnd hrow hf3 hf03 hb3 hs3 ha3 hnb hB1 hm hj0 hz0 hz1 hz2 co2 cp0 cx2
  generalize hand i g = hd at *
  go_wp2_with (at_builtin; refine wpList_append_own_at _ rfl (.tmp 38) (.tmp 40) 43 rfl 0 TU j0 (.int .u64 0) 1 8 Try.underlying43 J0.out Z0.out Z1.out Z2.out rfl (by decide) _ _ _ rfl (HR.out.alloc _) ⟨w3.heap.size, 0, none⟩ 1 1 [.int .u64 hd] rfl rfl (cell_one_new _ _ _) (by simp [Value.oneCell']) (by unfold maxLen; omega) (by omega) (Nat.zero_le _) ?_; intro v5 w5 hown5 hgrow5 _ hat5; obtain ⟨g6, k6, rfl⟩ := ownsRow_succ hown5; have hb5 : w5.heap[B xh]? = w3.heap[B xh]? := (by rw [hgrow5.block _ (by simp; omega) (fun e => HNB.out e.symm)]; exact Below.heap_alloc _ _ _ hbl); have c35 : w5.cell? ⟨B xh, 3, none⟩ = some (.slice ia m ik) := (World.cell?_of_block hb5).trans cx3; have z35 : w5.frozen? ⟨B xh, 3, none⟩ = false := (World.frozen?_of_block hb5).trans zx3; have HO5 := hid hown5; have HG5 := hid hgrow5; have HA5 := hid hat5; have HB5 := hid hb5; clear hown5 hgrow5 hat5 hb5)
  go_ret2
  obtain ⟨v5, hv5⟩ : ∃ v5, v5 = Value.slice (some ⟨g6, 0, none⟩) (m + 1) k6 := ⟨_, rfl⟩
  rw [← hv5] at HO5 HA5 ⊢
  have hfr35 : Fr (fun k => k = B xh ∨ (Value.slice ia m ik).ownBlock = some k) w3 (w5.setCell ⟨B xh, 3, none⟩ v5) :=
    (((Fr.refl _ _).alloc _).grown HG5.out (fun k hk _ => .inr hk)).setCell _ _ (fun _ => .inl rfl)
  have hb3x := HB3.out
  have hown6 : ∀ k, v5.ownBlock = some k → k ≠ B xh := fun k hk e => by
    subst e
    rcases HA5.out with e | e
    · rw [e] at hk; exact HNB.out hk
    · rw [e] at hk; simp at hk; omega
  have hlab : ∀ k, k < w3.heap.size → (k = B xh ∨ (Value.slice ia m ik).ownBlock = some k) → ∃ j, F1 k = (x.h, j) ∧ (j = 0 ∨ j = 2) := fun k _ hk => by
    rcases hk with rfl | hk
    · have := hb3x.fb
      rw [← HXH.out, HBX1.out] at this
      exact ⟨0, by rw [this, HXH.out], .inl rfl⟩
    · exact ⟨2, hb3x.fi k hk, .inr rfl⟩
  have hob6 : ObW (w5.setCell ⟨B xh, 3, none⟩ v5) (nw F1 w3.heap.size (x.h, 2)) (B1 x.h) { x with inners := x.inners ++ [hd] } := by
    have eB : B1 x.h = B xh := by rw [← HXH.out, HBX1.out]
    rw [eB]
    have hbb := hb3x.hb
    rw [← HXH.out, HBX1.out] at hbb
    refine ⟨s3, v5, c3, ?_, ?_, ?_, hb3x.hc, ?_, fun k hk => ?_, fun k hk => ?_⟩
    · rw [heap_setCell_same _ _ _ _ _ _ (HB5.out.trans hbb)]; rfl
    · refine hfr35.owns hb3x.hs (fun k hk e => ?_)
      have h1 := hb3x.fs k hk
      rcases e with rfl | e
      · have := hb3x.fb
        rw [← HXH.out, HBX1.out] at this
        rw [this] at h1; cases h1
      · have := hb3x.fi k e
        rw [this] at h1; cases h1
    · have h1 := HO5.out
      simp only [List.length_append, List.map_append, List.length_cons, List.length_nil, List.map_cons, List.map_nil, HM.out]
      exact ownsRow_setCell_other h1 (fun e => hown6 _ e rfl) _
    · rw [nw_lt hbl]
      have := hb3x.fb
      rw [← HXH.out, HBX1.out] at this
      exact this.trans (by rw [HXH.out])
    · rw [nw_lt (hb3x.hs.lt k hk).2]; exact hb3x.fs k hk
    · by_cases e : k < w3.heap.size
      · rw [nw_lt e]
        rcases HA5.out with e2 | e2
        · rw [e2] at hk; exact hb3x.fi k hk
        · rw [e2] at hk; simp at hk; omega
      · rw [nw_ge (by omega)]
  have hone := HADD.out.one HND.out (List.mem_append_left _ HX.out) (fun q => { q with inners := q.inners ++ [hd] }) (fun _ => rfl) (hfr35.mono (fp2 := fun k => k < w3.heap.size ∧ (k = B xh ∨ (Value.slice ia m ik).ownBlock = some k)) (fun k hk hl => ⟨hl, hk⟩)) (fun k hk => by
    obtain ⟨j, h1, _⟩ := hlab k hk.1 hk.2
    exact ⟨j, h1⟩) (fun k hk => nw_lt hk) hob6
  have eL : (L ++ [newOb hd xh n]).map (fun o => if o.h = x.h then { o with inners := o.inners ++ [hd] } else o) = addIn L xh hd ++ [newOb hd xh n] := by
    rw [List.map_append]
    unfold addIn
    rw [if_neg (by omega), ← HXH.out]
    congr 1
    simp only [List.map_cons, List.map_nil]
    rw [if_neg]
    intro e
    exact HN.out x HX.out (by rw [← HXH.out, ← e]; rfl)
  rw [eL] at hone
  have h0sz := H0.out.size
  have h03 := HF03.out.size
  refine ⟨rfl, _, nw F1 w3.heap.size (x.h, 2), B1, hone, fun k hk => by rw [nw_lt (by omega)]; exact HF1.out k hk, HF03.out.mono (fun k hk _ => .inl (HF0.out.fa k hk)) |>.trans hfr35 (fun k hk hl => .inr ⟨by omega, ?_⟩)⟩
  obtain ⟨j, h1, h2⟩ := hlab k (by omega) hk
  rw [HF1.out k hl, ← HXH.out] at h1
  rcases h2 with rfl | rfl
  · exact .inl h1
  · exact .inr h1
end
end Go.Proofs.Ytmkajdfajcodjaa

namespace Go.Proofs.Ytmkajdfajcodjaa
open Go Go.ChangeShapes Go.WideShapes Go.ChangeAt Go.RowKit

theorem nodup_len : ∀ {l m : List Int}, l.Nodup → (∀ x ∈ l, x ∈ m) → l.length ≤ m.length
  | [], _, _, _ => Nat.zero_le _
  | a :: l, m, hn, hs => by
    rw [List.nodup_cons] at hn
    have ha := hs a (by simp)
    have h1 := nodup_len (m := m.erase a) hn.2 fun x hx => by
      have : x ≠ a := fun e => hn.1 (e ▸ hx)
      exact (List.mem_erase_of_ne this).2 (hs x (List.mem_cons_of_mem _ hx))
    rw [List.length_erase_of_mem ha] at h1
    have := List.length_pos_of_mem ha
    rw [List.length_cons]
    omega
/-- A new object that nobody has yet. -/
structure Fresh (w w2 : World) (outer : Int) (n sb ob : Nat) (c : Int) : Prop where
  below : Below w.heap.size w w2
  hsb : w.heap.size ≤ sb
  hob : w.heap.size ≤ ob
  hne : sb ≠ ob
  hb : w2.heap[ob]? = some (.cells #[.slice (some ⟨sb, 0, none⟩) n n, .int .i64 0, .int .u64 outer, .slice none 0 0, .int .u32 c] 114 (0, 0))
  hs : w2.ownsRow 0 67 2 (.slice (some ⟨sb, 0, none⟩) n n) n (lkv (List.replicate n ⟨0, 0⟩))
def TwoPost (Q : Int → Int → World → Prop) (e : Ending) (w' : World) : Prop := ∃ a b : Int, e = .returned (.tuple #[.int .u64 a, .int .i64 b]) ∧ Q a b w'
theorem Make_arg (w : World) (p : Nat) (slots outer : Int) (h : slots < 0 ∨ 8 < slots) : Calls Try.prog 23 #[.pointer (some ⟨p, 0, none⟩), .int .i64 slots, .int .u64 outer] w fun e w' => e = .returned (.tuple #[.int .u64 0, .int .i64 1]) ∧ w = w' := by
  by_cases h1 : slots < 0
  · have d1 : decide (slots < 0) = true := by simpa using h1
    clear h h1
    go_enter Try.func23, Try.ntmps23
    go_wp2
    go_ret2
    exact ⟨rfl, rfl⟩
  · have d1 : decide (slots < 0) = false := by simpa using h1
    have d2 : decide (8 < slots) = true := by simp; omega
    clear h h1
    go_enter Try.func23, Try.ntmps23
    go_wp2
    go_ret2
    exact ⟨rfl, rfl⟩
theorem Make_nil (w : World) (slots outer : Int) : Calls Try.prog 23 #[.pointer none, .int .i64 slots, .int .u64 outer] w fun e w' => e = .returned (.tuple #[.int .u64 0, .int .i64 3]) ∧ w = w' := by
  go_enter Try.func23, Try.ntmps23
  go_wp2
  go_ret2
  exact ⟨rfl, rfl⟩
set_option maxRecDepth 100000 in
theorem Make_outer (w : World) (p n : Nat) (outer : Int) (hn : n ≤ 8) (h0 : outer ≠ 0) (Q : Int → Int → World → Prop)
    (hQ : ∀ w2 sb ob, Fresh w w2 outer n sb ob 0 → Calls Try.prog 49 #[.pointer (some ⟨p, 0, none⟩), .pointer (some ⟨ob, 0, none⟩)] w2 (TwoPost Q)) :
    Calls Try.prog 23 #[.pointer (some ⟨p, 0, none⟩), .int .i64 n, .int .u64 outer] w (TwoPost Q) := by
  have HQ := hid hQ
  have d0 : (outer == 0) = false := by simpa using h0
  obtain ⟨i0, hi, hz0, hz1, hz2⟩ := info_parts infoLkB
  have hi' := hid hi
  have hz0' := hid hz0
  have hz1' := hid hz1
  have hz2' := hid hz2
  clear hQ h0 hi hz0 hz1 hz2
  go_enter Try.func23, Try.ntmps23
  go_wp2_with ((with_reducible refine at_op ⟨some 18, _, _, _, _, _⟩ ?_); go_loud (refine wpList_make_full _ rfl (.tmp 17) (.tmp 17) 77 rfl 0 67 i0 (.agg #[.int .i64 0, .int .u64 0]) 2 Try.underlying77 hi'.out hz0'.out hz1'.out .i64 .i64 (n : Int) (n : Int) n rfl rfl rfl rfl (by rw [hz2'.out]; omega) (by unfold maxLen; omega) (Nat.zero_le _) ?_; intro w1 hown1 hgrow1; have HO1 := hid hown1; have HG1 := hid hgrow1; clear hown1 hgrow1))
  obtain ⟨w2, hw2⟩ : ∃ w2, w2 = w1.alloc (.cells #[.slice (some ⟨w.heap.size, 0, none⟩) n n, .int .i64 0, .int .u64 outer, .slice none 0 0, .int .u32 0] 114) := ⟨_, rfl⟩
  rw [← hw2]
  have hfresh : Fresh w w2 outer n w.heap.size w1.heap.size 0 := by
    have h1 := HO1.out
    rw [made_lkv] at h1
    have h2 := (h1.lt w.heap.size rfl).2
    refine ⟨?_, Nat.le_refl _, HG1.out.size, by omega, by rw [hw2]; exact heap_alloc_new _ _, by rw [hw2]; exact h1.alloc _⟩
    rw [hw2]
    exact ((Below.refl _ _).grown HG1.out (Nat.le_refl _) (fun _ e => by cases e)).alloc HG1.out.size _
  have HQ2 := hid (HQ.out _ _ _ hfresh)
  clear hfresh hw2 HQ
  go_wp2_with fail
  refine HQ2.out.mono ?_
  rintro e w3 ⟨a, b, rfl, hq⟩
  have HQ3 := hid hq
  clear hq
  go_wp2
  go_ret2
  exact ⟨a, b, rfl, HQ3.out⟩
set_option maxRecDepth 100000 in
theorem Make_whole (w : World) (p pa n : Nat) (hn : n ≤ 8) (top : Int) (hp : w.heap[p]? = some (.cells #[.pointer (some ⟨pa, 0, none⟩), .int .u32 top] 86 (0, 0))) (Q : Int → Int → World → Prop)
    (hQ : ∀ w2 sb ob, Fresh w w2 0 n sb ob 1 → Calls Try.prog 48 #[.pointer (some ⟨pa, 0, none⟩), .pointer (some ⟨ob, 0, none⟩)] w2 (TwoPost Q)) :
    Calls Try.prog 23 #[.pointer (some ⟨p, 0, none⟩), .int .i64 n, .int .u64 0] w (TwoPost Q) := by
  have HQ := hid hQ
  obtain ⟨i0, hi, hz0, hz1, hz2⟩ := info_parts infoLkB
  have hi' := hid hi
  have hz0' := hid hz0
  have hz1' := hid hz1
  have hz2' := hid hz2
  have HP := hid hp
  have hpl : p < w.heap.size := (Array.getElem?_eq_some_iff.1 hp).1
  clear hQ hi hz0 hz1 hz2 hp
  go_enter Try.func23, Try.ntmps23
  go_wp2_with ((with_reducible refine at_op ⟨some 18, _, _, _, _, _⟩ ?_); go_loud (refine wpList_make_full _ rfl (.tmp 17) (.tmp 17) 77 rfl 0 67 i0 (.agg #[.int .i64 0, .int .u64 0]) 2 Try.underlying77 hi'.out hz0'.out hz1'.out .i64 .i64 (n : Int) (n : Int) n rfl rfl rfl rfl (by rw [hz2'.out]; omega) (by unfold maxLen; omega) (Nat.zero_le _) ?_; intro w1 hown1 hgrow1; have HO1 := hid hown1; have HG1 := hid hgrow1; have hl1 : p < w1.heap.size := Nat.lt_of_lt_of_le hpl hgrow1.size; have hb1 : w1.heap[p]? = w.heap[p]? := hgrow1.block p hpl (by simp); have cp1 : w1.cell? ⟨p, 0, none⟩ = some (.pointer (some ⟨pa, 0, none⟩)) := (by rw [World.cell?_of_block hb1, cell_of_row w p 0 _ _ _ HP.out]; rfl); clear hb1 hown1 hgrow1))
  obtain ⟨w2, hw2⟩ : ∃ w2, w2 = w1.alloc (.cells #[.slice (some ⟨w.heap.size, 0, none⟩) n n, .int .i64 0, .int .u64 0, .slice none 0 0, .int .u32 1] 114) := ⟨_, rfl⟩
  rw [← hw2]
  have hfresh : Fresh w w2 0 n w.heap.size w1.heap.size 1 := by
    have h1 := HO1.out
    rw [made_lkv] at h1
    have h2 := (h1.lt w.heap.size rfl).2
    refine ⟨?_, Nat.le_refl _, HG1.out.size, by omega, by rw [hw2]; exact heap_alloc_new _ _, by rw [hw2]; exact h1.alloc _⟩
    rw [hw2]
    exact ((Below.refl _ _).grown HG1.out (Nat.le_refl _) (fun _ e => by cases e)).alloc HG1.out.size _
  have cp : w2.cell? ⟨p, 0, none⟩ = some (.pointer (some ⟨pa, 0, none⟩)) := by
    rw [World.cell?_of_block (hfresh.below.block p hpl)]
    rw [cell_of_row w p 0 _ _ _ HP.out]; rfl
  have HQ2 := hid (HQ.out _ _ _ hfresh)
  clear hfresh hw2 HQ
  go_wp2_with fail
  refine HQ2.out.mono ?_
  rintro e w3 ⟨a, b, rfl, hq⟩
  have HQ3 := hid hq
  clear hq
  go_wp2
  go_ret2
  exact ⟨a, b, rfl, HQ3.out⟩
section
variable {w : World} {p pa : Nat} {Sa : Nat → Prop} {AA : Ar} {F : Nat → Lab} {B : Int → Nat} {top : Int} {L : HL}
theorem makeInner_stale (h : HpW w p pa Sa AA F B top L) {ob : Nat} {outer : Int} (hn : fnd L outer = none) (ho : Hn outer) (hb : w.cell? ⟨ob, 2, none⟩ = some (.int .u64 outer)) :
    Calls Try.prog 49 #[.pointer (some ⟨p, 0, none⟩), .pointer (some ⟨ob, 0, none⟩)] w fun e w' => e = .returned (.tuple #[.int .u64 0, .int .i64 2]) ∧ w = w' := by
  have HF := hid (find_none h (fun o ho => fnd_none.1 hn o ho) ho)
  clear h hn ho
  go_enter Try.func49, Try.ntmps49
  go_wp2_with (refine HF.out.mono ?_; rintro e w1 ⟨rfl, rfl⟩)
  go_ret2
  exact ⟨rfl, rfl⟩
theorem makeInner_inner (h : HpW w p pa Sa AA F B top L) {ob : Nat} {x : Ob} (hx : x ∈ L) (hx0 : x.outer ≠ 0) (hb : w.cell? ⟨ob, 2, none⟩ = some (.int .u64 x.h)) :
    Calls Try.prog 49 #[.pointer (some ⟨p, 0, none⟩), .pointer (some ⟨ob, 0, none⟩)] w fun e w' => e = .returned (.tuple #[.int .u64 0, .int .i64 1]) ∧ w = w' := by
  obtain ⟨sv, iv, c, hbx⟩ := h.ob x hx
  have cx2 := hbx.c2
  have HF := hid (find_some h hx)
  have d0 : (x.outer != 0) = true := by simpa using hx0
  generalize x.outer = u at *
  generalize x.h = xh at *
  clear h hx hx0 hbx
  go_enter Try.func49, Try.ntmps49
  go_wp2_with (refine HF.out.mono ?_; rintro e w1 ⟨rfl, rfl⟩)
  go_ret2
  exact ⟨rfl, rfl⟩
theorem makeInner_full (h : HpW w p pa Sa AA F B top L) {ob : Nat} {x : Ob} (hx : x ∈ L) (hx0 : x.outer = 0) (hF : Full AA) (hb : w.cell? ⟨ob, 2, none⟩ = some (.int .u64 x.h)) :
    Calls Try.prog 49 #[.pointer (some ⟨p, 0, none⟩), .pointer (some ⟨ob, 0, none⟩)] w fun e w' => e = .returned (.tuple #[.int .u64 0, .int .i64 3]) ∧ Fr (fun _ => False) w w' := by
  obtain ⟨sv, iv, c, hbx⟩ := h.ob x hx
  have cx2 := hbx.c2
  rw [hx0] at cx2
  have cp0 := h.c0
  have HF := hid (find_some h hx)
  have HP := hid (Put_pf h (ob := ob) hF)
  generalize x.h = xh at *
  clear h hx hx0 hbx hF
  go_enter Try.func49, Try.ntmps49
  go_wp2_with fail
  refine HF.out.mono ?_
  rintro e w1 ⟨rfl, rfl⟩
  go_wp2_with (refine HP.out.mono ?_; rintro e w3 ⟨rfl, hf3⟩)
  go_ret2
  exact ⟨rfl, hf3⟩
end
/-- Make, whichever way it goes. -/
theorem HMake_any (S : Nat → Prop) (w : World) (v : Value) (s : Hs) (slots outer : Int) (h : RpH S w v s) (ho : Hn outer) : Calls Try.prog 23 #[v, .int .i64 slots, .int .u64 outer] w fun e w' => Fr S w w' ∧
    ∃ s' h er, e = .returned (.tuple #[.int .u64 h, .int .i64 er]) ∧ MkR s slots outer s' h er ∧ RpH (exS S w w') w' v s' := by
  obtain ⟨p, pa, Sa, AA, F, B, rfl, h1, h2, h3, h4, h5⟩ := h
  have hR : RpH S w (.pointer (some ⟨p, 0, none⟩)) s := ⟨p, pa, Sa, AA, F, B, rfl, h1, h2, h3, h4, h5⟩
  have hA := h1.ar.ok
  by_cases hs : slots < 0 ∨ 8 < slots
  · refine (Make_arg w p slots outer hs).mono ?_
    rintro e w' ⟨rfl, rfl⟩
    exact ⟨Fr.refl _ _, s, 0, 1, rfl, .arg hs, hR.ex h5 (Nat.le_refl _)⟩
  · have hs' : 0 ≤ slots ∧ slots ≤ 8 := by omega
    obtain ⟨n, rfl⟩ := Int.eq_ofNat_of_zero_le hs'.1
    have hn8 : n ≤ 8 := by omega
    by_cases h0 : outer = 0
    · subst h0
      rcases put_or_full hA (0 : Int) with hF | ⟨i, g, A', hp0⟩
      · refine (Make_whole w p pa n hn8 s.top h1.hp (fun a b w' => a = 0 ∧ b = 3 ∧ Below w.heap.size w w') (fun w2 sb ob hf => ?_)).mono ?_
        · have h12 : HpW w2 p pa Sa AA F B s.top s.L := h1.fr (fp := fun _ => False) (Fr.of_below hf.below) (fun e => e) (fun _ _ e => e) (fun _ _ _ _ _ e => e) (fun _ _ => rfl)
          refine (Put_pf h12 hF).mono ?_
          rintro e w' ⟨rfl, hfr⟩
          exact ⟨0, 3, rfl, rfl, rfl, hf.below.trans ((hfr.below (Nat.le_refl _) (fun _ e => e.elim)).mono hf.below.size)⟩
        · rintro e w' ⟨a, b, rfl, rfl, rfl, hb⟩
          exact ⟨Fr.of_below hb, s, 0, 3, rfl, .full hs' (fun e => absurd rfl e) (by rw [h2]; exact er_full.2 hF), (hR.below hb).ex h5 hb.size⟩
      · -- a place
        refine (Make_whole w p pa n hn8 s.top h1.hp (fun a b w' => Fr S w w' ∧ ∃ s', MkR s (n : Int) 0 s' a b ∧ RpH (exS S w w') w' (.pointer (some ⟨p, 0, none⟩)) s') (fun w2 sb ob hf => ?_)).mono ?_
        · have h12 : HpW w2 p pa Sa AA F B s.top s.L := h1.fr (fp := fun _ => False) (Fr.of_below hf.below) (fun e => e) (fun _ _ e => e) (fun _ _ _ _ _ e => e) (fun _ _ => rfl)
          obtain ⟨AA', hp⟩ : ∃ AA', Put AA ((ob + 1 : Nat) : Int) i g AA' := by
            cases hp0 with
            | again F' _ s' hF' hs' => exact ⟨_, .again F' i s' hF' hs'⟩
            | fresh hF' hl' => exact ⟨_, .fresh hF' hl'⟩
          refine (Put_p h12 hp).mono ?_
          rintro e w' ⟨rfl, ha, hfr⟩
          have hmk : MkR s (n : Int) 0 _ (hand i g) 0 := .ok (s := s) hs' (fun e => absurd rfl e) (by rw [h2]; exact er_put hp)
          have hfresh : ∀ o ∈ s.L, o.h ≠ hand i g := fun o ho e => (er_put hp).not_past (er_ok hA) (by rw [← e, ← h2]; exact h3.past _ (h3.ok.sub o ho))
          have hfr0 : Fr Sa w w' := (Fr.of_below hf.below).trans hfr (fun j hj _ => hj)
          have hbsz := hf.below.size
          have hobl : ob < w2.heap.size := (Array.getElem?_eq_some_iff.1 hf.hb).1
          have hsbl := (hf.hs.lt sb rfl).2
          have hfsb := hf.hsb
          have hfob := hf.hob
          have hadd := h1.add hA (n := n) (sb := sb) (ob := ob) (c := 1) hfr0 ha hp hfresh hfsb hfob hf.hne (fun k hk => by
            rcases hk with hk | hk
            · exact .inl hk
            · exact .inr ⟨by omega, by omega, by omega⟩) (by rw [hfr.block ob hobl (fun e => by have := h1.ar.lt ob e; omega)]; exact hf.hb) (hfr.owns hf.hs (fun k hk e => by
              simp [Value.ownBlock] at hk
              subst hk
              have := h1.ar.lt _ e
              omega)) (fun _ => rfl)
          have hadd' : HpW w' p pa (ext Sa w2 w') AA' (addF F w.heap.size sb ob (hand i g)) (fun x => if x = hand i g then ob else B x) s.top (addIn s.L 0 (hand i g) ++ [newOb (hand i g) 0 ((n : Int)).toNat]) := by
            simpa [show addIn s.L 0 (hand i g) = s.L from if_pos rfl] using hadd
          refine ⟨_, _, rfl, hfr0.mono (fun k hk hl => h4 k hl (by rw [h1.fa k hk]; simp [outL])), _, hmk, p, pa, _, AA', _, _, rfl, hadd', rfl, hmk.hsi h3 ho, exs_lab h4 (fun k hk => if_pos hk), exs_lt h5 (Nat.le_trans hbsz hfr.size)⟩
        · rintro e w' ⟨a, b, rfl, hfr, s', hmk, hr⟩
          exact ⟨hfr, s', a, b, rfl, hmk, hr⟩
    · refine (Make_outer w p n outer hn8 h0 (fun a b w' => Fr S w w' ∧ ∃ s', MkR s (n : Int) outer s' a b ∧ RpH (exS S w w') w' (.pointer (some ⟨p, 0, none⟩)) s') (fun w2 sb ob hf => ?_)).mono ?_
      · have h12 : HpW w2 p pa Sa AA F B s.top s.L := h1.fr (fp := fun _ => False) (Fr.of_below hf.below) (fun e => e) (fun _ _ e => e) (fun _ _ _ _ _ e => e) (fun _ _ => rfl)
        have co2 : w2.cell? ⟨ob, 2, none⟩ = some (.int .u64 outer) := by rw [cell_of_row w2 ob 2 _ _ _ hf.hb]; rfl
        have hsame : ∀ er, MkR s (n : Int) outer s 0 er → ∀ w', Below w.heap.size w w' → Fr S w w' ∧ ∃ s', MkR s (n : Int) outer s' 0 er ∧ RpH (exS S w w') w' (.pointer (some ⟨p, 0, none⟩)) s' := fun er hm w' hb => ⟨Fr.of_below hb, s, hm, (hR.below hb).ex h5 hb.size⟩
        cases hf0 : fnd s.L outer with
        | none =>
          refine (makeInner_stale h12 hf0 ho co2).mono ?_
          rintro e w' ⟨rfl, rfl⟩
          exact ⟨0, 2, rfl, hsame 2 (.stale hs' h0 hf0) _ hf.below⟩
        | some x =>
          obtain ⟨hx, hxe⟩ := fnd_some hf0
          rw [← hxe] at co2
          by_cases hx0 : x.outer = 0
          · rcases put_or_full hA (0 : Int) with hF | ⟨i, g, A', hp0⟩
            · refine (makeInner_full h12 hx hx0 hF co2).mono ?_
              rintro e w' ⟨rfl, hfr⟩
              exact ⟨0, 3, rfl, hsame 3 (.full hs' (fun _ => ⟨x, hf0, hx0⟩) (by rw [h2]; exact er_full.2 hF)) _ (hf.below.trans ((hfr.below (Nat.le_refl _) (fun _ e => e.elim)).mono hf.below.size))⟩
            · obtain ⟨AA', hp⟩ : ∃ AA', Put AA ((ob + 1 : Nat) : Int) i g AA' := by
                cases hp0 with
                | again F' _ s' hF' hs' => exact ⟨_, .again F' i s' hF' hs'⟩
                | fresh hF' hl' => exact ⟨_, .fresh hF' hl'⟩
              have hmk : MkR s (n : Int) outer _ (hand i g) 0 := .ok (s := s) hs' (fun _ => ⟨x, hf0, hx0⟩) (by rw [h2]; exact er_put hp)
              have hfresh : ∀ o ∈ s.L, o.h ≠ hand i g := fun o ho e => (er_put hp).not_past (er_ok hA) (by rw [← e, ← h2]; exact h3.past _ (h3.ok.sub o ho))
              have hfb := hf.hb
              rw [← hxe] at hfb
              refine (makeInner_ok h12 h3.inv hx hx0 hp hfresh hf.below h1 hf.hsb hf.hob hf.hne ?_ hfb hf.hs).mono ?_
              · -- so many inners at most
                have hsub : ∀ y ∈ x.inners, y ∈ (AA.L.zipIdx.map fun q => hand q.2 q.1.g) := fun y hy => by
                  obtain ⟨o, ho, e, _⟩ := h3.inv.inn x hx y hy
                  obtain ⟨j, sp, k1, k2, k3, _⟩ := h1.pl o ho
                  exact List.mem_map.2 ⟨(sp, j), List.mem_zipIdx_iff_getElem?.2 k1, by rw [← e, k3]⟩
                have := nodup_len (h3.inv.idp x hx) hsub
                rw [List.length_map, List.length_zipIdx] at this
                have h6 := hA.len
                have h7 := hA.m2
                omega
              · rintro e w' ⟨rfl, Sa', F', B', k1, k2, k3⟩
                rw [hxe] at k1 k3
                refine ⟨_, _, rfl, k3.mono (fun k hk hl => h4 k hl ?_), _, hmk, p, pa, Sa', AA', F', B', rfl, by simpa using k1, rfl, hmk.hsi h3 ho, exs_lab h4 k2, exs_lt h5 k3.size⟩
                have hxb := (h1.bd hx).1
                rcases hk with e | ⟨_, e | e⟩
                · rw [e]; simp [outL]
                · rw [e]; simp [outL]; omega
                · rw [e]; simp [outL]
          · refine (makeInner_inner h12 hx hx0 co2).mono ?_
            rintro e w' ⟨rfl, rfl⟩
            exact ⟨0, 1, rfl, hsame 1 (.inner hs' h0 x hf0 hx0) _ hf.below⟩
      · rintro e w' ⟨a, b, rfl, hfr, s', hmk, hr⟩
        exact ⟨hfr, s', a, b, rfl, hmk, hr⟩
end Go.Proofs.Ytmkajdfajcodjaa
