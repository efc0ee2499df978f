/- HrF HrG HrH HrI HrJ HrK in one -/
import Derived.Test.YtmkajdfajcodjaaHrD
import Derived.Test.YtmkajdfajcodjaaHqU
import Derived.Laws.MakeOwn
import Derived.Test.YtmkajdfajcodjaaGen
import Derived.Test.YtmkajdfajcodjaaMixD
namespace Go.Proofs.Ytmkajdfajcodjaa
open Go Go.ChangeShapes Go.WideShapes Go.ChangeAt Go.RowKit

/-- The plain twin at a pointer, in a set of blocks. -/
def RfH (S : Nat → Prop) (w : World) (v : Value) (s : Hs) : Prop :=
  ∃ p pa Sa F B lv, v = .pointer (some ⟨p, 0, none⟩) ∧ RhW w p pa Sa s.A F B s.top s.L lv ∧ HsI s ∧ (∀ k, k < w.heap.size → F k ≠ outL → S k) ∧ ∀ k, S k → k < w.heap.size
theorem HsI.len {s : Hs} (h : HsI s) : s.L.length ≤ 65536 := by
  have hsub : ∀ y ∈ s.L.map (·.h), y ∈ (s.A.L.zipIdx.map fun q => hand q.2 q.1.g) := fun y hy => by
    obtain ⟨o, ho, rfl⟩ := List.mem_map.1 hy
    obtain ⟨j, sp, k1, k2, k3⟩ := h.ok.has o ho
    exact List.mem_map.2 ⟨(sp, j), List.mem_zipIdx_iff_getElem?.2 k1, k3.symm⟩
  have := nodup_len h.inv.nd hsub
  rw [List.length_map, List.length_map, List.length_zipIdx] at this
  have h6 := h.ok.aok.len
  have h7 := h.ok.aok.m2
  omega
section
variable {w w1 : World} {p pa : Nat} {Sa : Nat → Prop} {A : Ar} {F : Nat → Lab} {B : Int → Nat} {top : Int} {L : HL} {lv : Value}
theorem RhW.go (h : RhW w p pa Sa A F B top L lv) (l : Lk) (hw1 : w1 = w.alloc (.cells #[.int .i64 l.kind, .int .u64 l.h] TLk)) :
    GoE w1 p pa Sa A (nw F w.heap.size (-7, 0)) B top L lv (.slice none 0 0) (.slice (some ⟨w.heap.size, 0, none⟩) 1 1) (.slice none 0 0) (.slice none 0 0) [] [l] [] [] := by
  have hb1 : Below w.heap.size w w1 := by rw [hw1]; exact (Below.refl _ _).alloc (Nat.le_refl _) _
  refine ⟨h.fr (fp := fun _ => False) (Fr.of_below hb1) (fun e => e) (fun _ _ e => e) (fun _ _ e => e) (fun _ _ _ _ _ e => e) (fun _ hk => nw_lt hk), World.ownsRow_nil _ _ _ _, fun k hk => by simp [Value.ownBlock] at hk, ?_, fun k hk => ?_, World.ownsRow_nil _ _ _ _, fun k hk => by simp [Value.ownBlock] at hk, World.ownsRow_nil _ _ _ _, fun k hk => by simp [Value.ownBlock] at hk⟩
  · rw [hw1]
    exact World.ownsRow_lit w #[.int .i64 l.kind, .int .u64 l.h] 1 (Nat.zero_le _) (by unfold maxLen; omega) rfl
  · simp [Value.ownBlock] at hk
    subst hk
    exact nw_ge (Nat.le_refl _)
def REndPost (w : World) (p pa : Nat) (A : Ar) (F : Nat → Lab) (B : Int → Nat) (top : Int) (L1 : HL) (l : Lk) (e : Ending) (w' : World) : Prop :=
  ∃ vg vf Lf g f Sa1 A1 F1 lv1, e = .returned (.tuple #[vg, vf, .int .i64 0]) ∧ Told TU u64v w' vg g ∧ Told TU u64v w' vf ((let1 L1 l).2.2 ++ f) ∧ Goes (let1 L1 l).1 (let1 L1 l).2.1 Lf g f ∧ RhW w' p pa Sa1 A1 F1 B top Lf lv1 ∧ DrR A g A1 ∧ (∀ k, k < w.heap.size → F1 k = F k) ∧ FrF F w w'
theorem own_told {w : World} {v : Value} {l : List Int} (h : w.ownsRow 0 TU 1 v l.length (l.map u64v)) : Told TU u64v w v l := (⟨h, fun _ _ e => e⟩ : RowS TU u64v (fun _ => False) 0 w v l).told
/-- What Go answers, told by its one link. -/
theorem GoP.one {w1 w' : World} {l : Lk} {e : Ending} (hb : Below w.heap.size w w1) (h : GoP w1 p pa A (nw F w.heap.size (-7, 0)) B top L [] [l] e w') :
    ∃ vg vf, e = .returned (.tuple #[vg, vf]) ∧ REndPost w p pa A F B top L l (.returned (.tuple #[vg, vf, .int .i64 0])) w' := by
  obtain ⟨Lf, g, f, Sa1, A1, F1, lv1, vg, vf, rfl, k1, k2, ⟨f2, k3, rfl⟩, k4, k5, k6, k7⟩ := h
  rw [letg_one] at k3 k2
  refine ⟨vg, vf, rfl, vg, vf, Lf, g, f2, Sa1, A1, F1, lv1, rfl, own_told k1, own_told k2, by simpa using k3, k4, k5, fun k hk => ?_, ?_⟩
  · rw [k6 k (Nat.lt_of_lt_of_le hk hb.size)]; exact nw_lt hk
  · exact FrF.trans (F1 := nw F w.heap.size (-7, 0)) (Fr.of_below hb) k7 (fun k hk => nw_lt hk)
theorem RDown_some (h : RhW w p pa Sa A F B top L lv) (hf : ∀ o ∈ L, ∃ i sp, Found A o.h i sp) (hi : HIn top L) (htop : top ≤ 4294967295) (hL : L.length ≤ 65536) {hd : Int} {o : Ob} (ho : fnd L hd = some o) (hbd : Hn hd) :
    Calls Try.prog 39 #[.pointer (some ⟨p, 0, none⟩), .int .u64 hd] w (REndPost w p pa A F B top L ⟨1, hd⟩) := by
  have HFI := hid (RFind_some h (by omega) ho)
  obtain ⟨w1, hw1⟩ : ∃ w1, w1 = w.alloc (.cells #[.int .i64 1, .int .u64 hd] TLk) := ⟨_, rfl⟩
  have hb1 : Below w.heap.size w w1 := by rw [hw1]; exact (Below.refl _ _).alloc (Nat.le_refl _) _
  have hgo := RGo_any (h.go ⟨1, hd⟩ hw1) hf hi (WQ.nil L) htop (by intro l hl; simp at hl; subst hl; exact ⟨by simp [Nm], hbd⟩) hL (by simp)
  have HW1 := hid hw1
  have HGO := hid hgo
  have HB1 := hid hb1
  clear hw1 hgo hb1 hf hi htop h ho hL hbd
  obtain ⟨q, hq⟩ : ∃ q, q = w.heap.size := ⟨_, rfl⟩
  go_enter Try.func39, Try.ntmps39
  go_wp2_with fail
  refine HFI.out.mono ?_
  rintro e w0 ⟨rfl, rfl⟩
  go_wp2_with fail
  rw [← HW1.out]
  refine HGO.out.mono ?_
  intro e w2 hp
  obtain ⟨vg, vf, rfl, hp2⟩ := GoP.one HB1.out hp
  have HP := hid hp2
  clear hp hp2
  go_wp2
  go_ret3
  exact HP.out
theorem RDown_none (h : RhW w p pa Sa A F B top L lv) (hL : L.length ≤ 65536) {hd : Int} (e : fnd L hd = none) :
    Calls Try.prog 39 #[.pointer (some ⟨p, 0, none⟩), .int .u64 hd] w fun e w' => e = .returned (.tuple #[.slice none 0 0, .slice none 0 0, .int .i64 2]) ∧ w = w' := by
  have HF := hid (RFind_none h (by omega) e)
  clear h hL e
  go_enter Try.func39, Try.ntmps39
  go_wp2_with (refine HF.out.mono ?_; rintro e w1 ⟨rfl, rfl⟩)
  go_ret3
  exact ⟨rfl, rfl⟩
end
end Go.Proofs.Ytmkajdfajcodjaa

namespace Go.Proofs.Ytmkajdfajcodjaa
open Go Go.ChangeShapes Go.WideShapes Go.ChangeAt Go.RowKit

theorem lab_out {F : Nat → Lab} {k : Nat} {l : Int} {j : Nat} (e : F k = (l, j)) (hl : -100 < l) : F k ≠ outL := fun e2 => by
  rw [e] at e2
  have := congrArg Prod.fst e2
  simp only [outL] at this
  omega
theorem RfH.fr {S fp : Nat → Prop} {w w' : World} {v : Value} {s : Hs} (h : RfH S w v s) (hf : Fr fp w w') (hd : ∀ k, S k → ¬ fp k) : RfH S w' v s := by
  obtain ⟨p, pa, Sa, F, B, lv, rfl, h1, h3, h4, h5⟩ := h
  have no : ∀ k l j, F k = (l, j) → -100 < l → k < w.heap.size → ¬ fp k := fun k l j e hl hk => hd k (h4 k hk (lab_out e hl))
  have hfr : Fr (fun k => fp k ∧ k < w.heap.size) w w' := hf.mono (fun k e hk => ⟨e, hk⟩)
  refine ⟨p, pa, Sa, nw F w.heap.size outL, B, lv, rfl, h1.fr hfr (fun e => no p _ _ h1.fp (by omega) e.2 e.1) (fun k e e2 => no k _ _ e (by omega) e2.2 e2.1) (fun k e e2 => no k _ _ e (by omega) e2.2 e2.1)
    (fun o ho k j e e2 => no k _ _ e (by have := (h3.inv.nz o ho).1; omega) e2.2 e2.1) (fun k hk => nw_lt hk), h3, fun k hk hF => ?_, fun k hk => Nat.lt_of_lt_of_le (h5 k hk) hf.size⟩
  by_cases e : k < w.heap.size
  · rw [nw_lt e] at hF; exact h4 k e hF
  · rw [nw_ge (by omega)] at hF; exact absurd rfl hF
theorem RfH.lt {S : Nat → Prop} {w : World} {v : Value} {s : Hs} (h : RfH S w v s) : ∀ k, S k → k < w.heap.size := by
  obtain ⟨_, _, _, _, _, _, _, _, _, _, h5⟩ := h; exact h5
theorem RfH.hsi {S : Nat → Prop} {w : World} {v : Value} {s : Hs} (h : RfH S w v s) : HsI s := by
  obtain ⟨_, _, _, _, _, _, _, _, h3, _⟩ := h; exact h3
theorem RfH.ex {S : Nat → Prop} {w w' : World} {v : Value} {s : Hs} (h : RfH S w' v s) (h5 : ∀ k, S k → k < w.heap.size) (hs : w.heap.size ≤ w'.heap.size) : RfH (exS S w w') w' v s := by
  obtain ⟨p, pa, Sa, F, B, lv, h0, h1, h3, h4, _⟩ := h
  exact ⟨p, pa, Sa, F, B, lv, h0, h1, h3, fun k hk hl => .inl (h4 k hk hl), exs_lt h5 hs⟩
theorem RfUp_any (S : Nat → Prop) (w : World) (v : Value) (s : Hs) (hd : Int) (h : RfH S w v s) : Calls Try.prog 38 #[v, .int .u64 hd] w fun e w' => Fr S w w' ∧
    ∃ s' n er, e = .returned (.tuple #[.int .u32 n, .int .i64 er]) ∧ UpR s hd s' n er ∧ RfH (exS S w w') w' v s' := by
  have hR := h
  obtain ⟨p, pa, Sa, F, B, lv, rfl, h1, h3, h4, h5⟩ := h
  have hl := h3.len
  cases hw : whl s.L hd with
  | none =>
    refine (RUp_none h1 (by omega) ((whl_none h3.inv).1 hw)).mono ?_
    rintro e w' ⟨rfl, rfl⟩
    exact ⟨Fr.refl _ _, s, 0, 2, rfl, .stale hw, hR.ex h5 (Nat.le_refl _)⟩
  | some x =>
    have hxb := (h3.inv.nz x (whl_some h3.inv hw).1).1
    by_cases ht : x.count = s.top
    · refine (RUp_top h1 (by omega) h3.inv hw ht).mono ?_
      rintro e w' ⟨rfl, hf⟩
      exact ⟨hf.mono (fun _ e _ => e.elim), s, 0, 4, rfl, .top x hw ht, (hR.fr hf (fun _ _ e => e)).ex h5 hf.size⟩
    · refine (RUp_ok h1 (by omega) h3.inv h3.t2 hw ht).mono ?_
      rintro e w' ⟨rfl, hp, hf⟩
      have hu : UpR s hd _ (x.count + 1) 0 := .ok x hw ht
      refine ⟨hf.mono (fun k e hl => h4 k hl (lab_out e (by omega))), _, _, 0, rfl, hu, p, pa, Sa, F, B, lv, rfl, hp, hu.hsi h3, exs_lab h4 (fun _ _ => rfl), exs_lt h5 hf.size⟩
theorem RfDown_any (S : Nat → Prop) (w : World) (v : Value) (s : Hs) (hd : Int) (h : RfH S w v s) (h0 : Hn hd) : Calls Try.prog 39 #[v, .int .u64 hd] w fun e w' => Fr S w w' ∧
    ∃ s' g f er vg vf, e = .returned (.tuple #[vg, vf, .int .i64 er]) ∧ Told TU u64v w' vg g ∧ Told TU u64v w' vf f ∧ DnR s hd s' g f er ∧ RfH (exS S w w') w' v s' := by
  have hR := h
  obtain ⟨p, pa, Sa, F, B, lv, rfl, h1, h3, h4, h5⟩ := h
  have hl := h3.len
  cases hf : fnd s.L hd with
  | none =>
    refine (RDown_none h1 hl hf).mono ?_
    rintro e w' ⟨rfl, rfl⟩
    exact ⟨Fr.refl _ _, s, [], [], 2, _, _, rfl, told_nil _, told_nil _, .stale hf, hR.ex h5 (Nat.le_refl _)⟩
  | some o =>
    refine (RDown_some h1 h3.ok.has h3.inv h3.t2 hl hf h0).mono ?_
    rintro e w' ⟨vg, vf, Lf, g, f, Sa1, A1, F1, lv1, rfl, t1, t2, hg, k1, k2, k3, k4⟩
    have hdn : DnR s hd _ g ((let1 s.L ⟨1, hd⟩).2.2 ++ f) 0 := .ok o hf (L' := Lf) (A' := A1) ⟨f, by rw [letg_one]; exact hg, by rw [letg_one]⟩ k2
    exact ⟨Fr.mono k4 (fun k hk hl => h4 k hl hk), _, g, _, 0, vg, vf, rfl, t1, t2, hdn, p, pa, Sa1, F1, B, lv1, rfl, k1, hdn.hsi h3, exs_lab h4 k3, exs_lt h5 k4.size⟩
/-- New. -/
theorem RfNew_any (m t : Int) (w : World) (ht : U32 t) : Calls Try.prog 11 #[.int .i64 m, .int .u32 t] w fun e w' => Below w.heap.size w w' ∧
    (if 1 ≤ m ∧ m ≤ 256 ∧ t ≠ 0 then ∃ p S, e = .returned p ∧ (∀ b, S b → w.heap.size ≤ b) ∧ RfH S w' p ⟨t, Go.Proofs.Ytmkajdfajcodjaa.new m.toNat 1, [], []⟩ else e = .returned (.pointer none)) := by
  by_cases h1 : m < 1
  · simp only [if_neg (show ¬ (1 ≤ m ∧ m ≤ 256 ∧ t ≠ 0) by omega)]
    have d1 : decide (m < 1) = true := by simpa using h1
    clear h1 ht
    go_enter Try.func11, Try.ntmps11
    go_wp2
    go_ret
    exact ⟨Below.refl _ _, rfl⟩
  · have d1 : decide (m < 1) = false := by simpa using h1
    by_cases h2 : 256 < m
    · simp only [if_neg (show ¬ (1 ≤ m ∧ m ≤ 256 ∧ t ≠ 0) by omega)]
      have d2 : decide (256 < m) = true := by simpa using h2
      clear h1 h2 ht
      go_enter Try.func11, Try.ntmps11
      go_wp2
      go_ret
      exact ⟨Below.refl _ _, rfl⟩
    · have d2 : decide (256 < m) = false := by simpa using h2
      by_cases h3 : t = 0
      · subst h3
        simp only [if_neg (show ¬ (1 ≤ m ∧ m ≤ 256 ∧ (0 : Int) ≠ 0) by omega)]
        clear h1 h2 ht
        go_enter Try.func11, Try.ntmps11
        go_wp2
        go_ret
        exact ⟨Below.refl _ _, rfl⟩
      · simp only [if_pos (show 1 ≤ m ∧ m ≤ 256 ∧ t ≠ 0 from ⟨by omega, by omega, h3⟩)]
        have d3 : (t == 0) = false := by simpa using h3
        have hA := RNew_any m 1 w (by omega) (by omega) (by omega) (by omega)
        have HA := hid hA
        have H1 := hid h1
        have H2 := hid h2
        have H3 := hid h3
        have HT := hid ht
        clear hA h1 h2 h3 ht
        go_enter Try.func11, Try.ntmps11
        go_wp2_with fail
        refine HA.out.mono ?_
        rintro e w1 ⟨rfl, hw1⟩
        have HW := hid hw1
        clear hw1
        go_wp2
        go_ret
        have h1 := H1.out
        have h2 := H2.out
        have h3 := H3.out
        have ht := HT.out
        unfold U32 at ht
        have hw1 := HW.out
        have hm : ((m.toNat : Nat) : Int) = m := by omega
        obtain ⟨w2, hw2⟩ : ∃ w2, w2 = w1.alloc (.cells #[.int .u32 t, .pointer (some ⟨w.heap.size, 0, none⟩), .slice none 0 0] 53) := ⟨_, rfl⟩
        rw [← hw2]
        have s1 : w1.heap.size = w.heap.size + 1 := by rw [hw1]; simp
        have hb1 : Below w.heap.size w w1 := by rw [hw1]; exact (Below.refl _ _).alloc (Nat.le_refl _) _
        have hb12 : Below w1.heap.size w1 w2 := by rw [hw2]; exact (Below.refl _ _).alloc (Nat.le_refl _) _
        have hb2 : Below w.heap.size w w2 := hb1.trans (hb12.mono hb1.size)
        have hp : w2.heap[w1.heap.size]? = some (.cells #[.int .u32 t, .pointer (some ⟨w.heap.size, 0, none⟩), .slice none 0 0] 53 (0, 0)) := by rw [hw2]; exact heap_alloc_new _ _
        have s2 : w2.heap.size = w.heap.size + 2 := by rw [hw2]; simp; omega
        have har : RInS (fun k => k = w.heap.size) w1 w.heap.size (Go.Proofs.Ytmkajdfajcodjaa.new m.toNat 1) := by
          have := rnew_RInS w m.toNat 1 (by omega) (by omega)
          rw [hm] at this
          rw [hw1]
          exact this
        refine ⟨hb2, _, fun k => w.heap.size ≤ k ∧ k < w2.heap.size, rfl, fun b hb => hb.1, w1.heap.size, w.heap.size, fun k => k = w.heap.size,
          fun k => if k = w.heap.size then (0, 0) else if k = w1.heap.size then (-1, 0) else outL, fun _ => 0, .slice none 0 0, rfl, ⟨hp, har.fr (fp := fun _ => False) (Fr.of_below hb12) (fun _ _ e => e), ?_, ?_, World.ownsRow_nil _ _ _ _, by simp [Value.ownBlock], by simp⟩, HsI.new (by omega) (by omega), ?_, fun k hk => hk.2⟩
        · intro k hk
          simp [hk]
        · show (if w1.heap.size = w.heap.size then ((0, 0) : Lab) else if w1.heap.size = w1.heap.size then (-1, 0) else outL) = (-1, 0)
          rw [if_neg (by omega)]
          exact if_pos rfl
        · intro k hk hF
          refine ⟨?_, hk⟩
          by_cases e : k = w.heap.size
          · omega
          · by_cases e2 : k = w1.heap.size
            · omega
            · simp only at hF
              rw [if_neg e, if_neg e2] at hF
              exact absurd rfl hF
end Go.Proofs.Ytmkajdfajcodjaa

namespace Go.Proofs.Ytmkajdfajcodjaa
open Go Go.ChangeShapes Go.WideShapes Go.ChangeAt Go.RowKit

section
variable {w w' : World} {p pa : Nat} {Sa : Nat → Prop} {A A' : Ar} {F : Nat → Lab} {B : Int → Nat} {top : Int} {L : HL} {lv : Value}
theorem RPut_some (h : RInS Sa w pa A) {i g : Nat} (hp : Put A 0 i g A') : Calls Try.prog 58 #[.pointer (some ⟨pa, 0, none⟩), .int .i64 0] w (RPost Sa w pa A' (.int .u64 (hand i g))) := by
  cases hp with
  | again F i s hF hs => exact RPut_again Sa w pa A i s.g F s 0 h hF hs rfl
  | fresh hF hl => exact RPut_fresh Sa w pa A 0 h hF hl
theorem RMake_arg (w : World) (v : Value) (slots outer : Int) (h : slots < 0 ∨ 8 < slots) : Calls Try.prog 37 #[v, .int .i64 slots, .int .u64 outer] w fun e w' => e = .returned (.tuple #[.int .u64 0, .int .i64 1]) ∧ w = w' := by
  by_cases h0 : slots < 0
  · have d0 : decide (slots < 0) = true := by simpa using h0
    clear h h0
    go_enter Try.func37, Try.ntmps37
    go_wp2
    go_ret2
    exact ⟨rfl, rfl⟩
  · have d0 : decide (slots < 0) = false := by simpa using h0
    have d1 : decide (8 < slots) = true := by simp; omega
    clear h h0
    go_enter Try.func37, Try.ntmps37
    go_wp2
    go_ret2
    exact ⟨rfl, rfl⟩
theorem RMake_stale (h : RhW w p pa Sa A F B top L lv) (hl : L.length ≤ 65536) {slots outer : Int} (hs : 0 ≤ slots ∧ slots ≤ 8) (h0 : outer ≠ 0) (hf : fnd L outer = none) :
    Calls Try.prog 37 #[.pointer (some ⟨p, 0, none⟩), .int .i64 slots, .int .u64 outer] w fun e w' => e = .returned (.tuple #[.int .u64 0, .int .i64 2]) ∧ w = w' := by
  have HF := hid (RFind_none h (by omega) hf)
  have d0 : decide (slots < 0) = false := by simp; omega
  have d1 : decide (8 < slots) = false := by simp; omega
  have d2 : (outer != 0) = true := by simpa using h0
  clear h hl hs h0 hf
  go_enter Try.func37, Try.ntmps37
  go_wp2_with (go_at_call 43; refine HF.out.mono ?_; rintro e w1 ⟨rfl, rfl⟩)
  go_ret2
  exact ⟨rfl, rfl⟩
theorem RMake_inner (h : RhW w p pa Sa A F B top L lv) (hl : L.length ≤ 65536) {slots outer : Int} (hs : 0 ≤ slots ∧ slots ≤ 8) (h0 : outer ≠ 0) {o : Ob} (hf : fnd L outer = some o) (ho : o.outer ≠ 0) :
    Calls Try.prog 37 #[.pointer (some ⟨p, 0, none⟩), .int .i64 slots, .int .u64 outer] w fun e w' => e = .returned (.tuple #[.int .u64 0, .int .i64 1]) ∧ w = w' := by
  have HF := hid (RFind_some h (by omega) hf)
  obtain ⟨hm, rfl⟩ := fnd_some hf
  obtain ⟨sv, iv, hb⟩ := h.ob o hm
  have c1 := hb.c1
  have d0 : decide (slots < 0) = false := by simp; omega
  have d1 : decide (8 < slots) = false := by simp; omega
  have d2 : (o.h != 0) = true := by simpa using h0
  have d3 : (o.outer != 0) = true := by simpa using ho
  generalize o.outer = u at *
  generalize o.h = oh at *
  clear h hl hs h0 hf ho hb
  go_enter Try.func37, Try.ntmps37
  go_wp2_with (go_at_call 43; refine HF.out.mono ?_; rintro e w1 ⟨rfl, rfl⟩)
  go_ret2
  exact ⟨rfl, rfl⟩
theorem RMake_full (h : RhW w p pa Sa A F B top L lv) (hl : L.length ≤ 65536) {slots outer : Int} (hs : 0 ≤ slots ∧ slots ≤ 8) (hF : Full A) (h0 : outer ≠ 0 → ∃ o, fnd L outer = some o ∧ o.outer = 0) :
    Calls Try.prog 37 #[.pointer (some ⟨p, 0, none⟩), .int .i64 slots, .int .u64 outer] w fun e w' => e = .returned (.tuple #[.int .u64 0, .int .i64 3]) ∧ w = w' := by
  have HP := hid (RPut_full Sa w pa A 0 h.ar hF)
  have c1p := h.c1
  have d0 : decide (slots < 0) = false := by simp; omega
  have d1 : decide (8 < slots) = false := by simp; omega
  by_cases e0 : outer = 0
  · subst e0
    clear h hl hs h0 hF
    go_enter Try.func37, Try.ntmps37
    go_wp2_with (go_at_call 58; refine HP.out.mono ?_; rintro e w1 ⟨rfl, rfl⟩)
    go_ret2
    exact ⟨rfl, rfl⟩
  · obtain ⟨o, hf, ho⟩ := h0 e0
    have HFI := hid (RFind_some h (by omega) hf)
    obtain ⟨hm, rfl⟩ := fnd_some hf
    obtain ⟨sv, iv, hb⟩ := h.ob o hm
    have c1 := hb.c1
    rw [ho] at c1
    have d2 : (o.h != 0) = true := by simpa using e0
    generalize o.h = oh at *
    clear h hl hs h0 hf hb ho e0 hF
    go_enter Try.func37, Try.ntmps37
    go_wp2_with (first | (go_at_call 43; refine HFI.out.mono ?_; rintro e w1 ⟨rfl, rfl⟩) | (go_at_call 58; refine HP.out.mono ?_; rintro e w1 ⟨rfl, rfl⟩))
    go_ret2
    exact ⟨rfl, rfl⟩
end
end Go.Proofs.Ytmkajdfajcodjaa

namespace Go.Proofs.Ytmkajdfajcodjaa
open Go Go.ChangeShapes Go.WideShapes Go.ChangeAt Go.RowKit

def adF (F : Nat → Lab) (n sb ob : Nat) (h : Int) : Nat → Lab := fun k => if k < n then F k else if k = sb then (h, 1) else if k = ob then (h, 0) else (-3, 0)
section
variable {w w' : World} {p pa : Nat} {Sa : Nat → Prop} {A A' : Ar} {F : Nat → Lab} {B : Int → Nat} {top : Int} {L : HL} {lv : Value}
/-- A new object, laid behind the others. -/
theorem RhW.add (h : RhW w p pa Sa A F B top L lv) (hz : ∀ o ∈ L, 1 ≤ o.h) {hd outer : Int} (hn : ∀ o ∈ L, o.h ≠ hd) {n sb ob : Nat} {lv' : Value} (hfr : Fr (fun k => k = p ∨ lv.ownBlock = some k) w w')
    (hp : w'.heap[p]? = some (.cells #[.int .u32 top, .pointer (some ⟨pa, 0, none⟩), lv'] 53 (0, 0))) (hs1 : w.heap.size ≤ sb) (hs2 : w.heap.size ≤ ob) (hne : sb ≠ ob)
    (hb : w'.heap[ob]? = some (.cells #[.int .u64 hd, .int .u64 outer, .int .u32 1, .int .i64 0, .slice (some ⟨sb, 0, none⟩) n n, .slice none 0 0] 101 (0, 0)))
    (hs : w'.ownsRow 0 TLk 2 (.slice (some ⟨sb, 0, none⟩) n n) n (lkv (List.replicate n ⟨0, 0⟩)))
    (hr : w'.ownsRow 0 TOp 1 lv' (L.length + 1) (opv B L ++ [.pointer (some ⟨ob, 0, none⟩)])) (hlv : ∀ k, lv'.ownBlock = some k → lv.ownBlock = some k ∨ (w.heap.size ≤ k ∧ k ≠ sb ∧ k ≠ ob)) :
    RhW w' p pa Sa A (adF F w.heap.size sb ob hd) (fun x => if x = hd then ob else B x) top (L ++ [newOb hd outer n]) lv' := by
  have hlo : ∀ k, k < w.heap.size → adF F w.heap.size sb ob hd k = F k := fun k hk => if_pos hk
  have hsb : adF F w.heap.size sb ob hd sb = (hd, 1) := by unfold adF; rw [if_neg (by omega)]; exact if_pos rfl
  have hob : adF F w.heap.size sb ob hd ob = (hd, 0) := by unfold adF; rw [if_neg (by omega), if_neg (fun e => hne e.symm)]; exact if_pos rfl
  have hel : ∀ k, w.heap.size ≤ k → k ≠ sb → k ≠ ob → adF F w.heap.size sb ob hd k = (-3, 0) := fun k h1 h2 h3 => by unfold adF; rw [if_neg (by omega), if_neg h2, if_neg h3]
  generalize adF F w.heap.size sb ob hd = F' at *
  have no : ∀ k l j, F k = (l, j) → l ≠ -1 → l ≠ -3 → ¬ (k = p ∨ lv.ownBlock = some k) := fun k l j e h2 h3 hk => by
    rcases hk with e2 | e2
    · rw [e2, h.fp] at e; exact h2 (congrArg Prod.fst e).symm
    · rw [h.fl k e2] at e; exact h3 (congrArg Prod.fst e).symm
  have hov : opv (fun x => if x = hd then ob else B x) (L ++ [newOb hd outer n]) = opv B L ++ [.pointer (some ⟨ob, 0, none⟩)] := by
    unfold opv
    rw [List.map_append]
    congr 1
    · exact List.map_congr_left fun o ho => by simp only [if_neg (hn o ho)]
    · simp [newOb]
  refine ⟨hp, h.ar.fr hfr (fun k hk => no k _ _ (h.fa k hk) (by omega) (by omega)), fun k hk => by rw [hlo k (h.ar.lt k hk)]; exact h.fa k hk, by rw [hlo p h.lt]; exact h.fp, ?_, fun k hk => ?_, fun o ho => ?_⟩
  · rw [hov, List.length_append, List.length_singleton]; exact hr
  · rcases hlv k hk with e | ⟨e1, e2, e3⟩
    · rw [hlo k (h.lr.lt k e).2]; exact h.fl k e
    · exact hel k e1 e2 e3
  · rcases List.mem_append.1 ho with ho | ho
    · rw [if_neg (hn o ho)]
      exact (h.ob o ho).fr hfr (fun k j e => no k _ j e (by have := hz o ho; omega) (by have := hz o ho; omega)) hlo
    · simp at ho
      subst ho
      simp only [newOb, if_pos]
      refine ⟨_, _, hb, by simpa using hs, World.ownsRow_nil _ _ _ _, hob, fun k hk => ?_, fun k hk => ?_⟩
      · simp [Value.ownBlock] at hk
        subst hk
        exact hsb
      · simp [Value.ownBlock] at hk
def MkP (w : World) (p pa : Nat) (F : Nat → Lab) (top : Int) (L' : HL) (A' : Ar) (hd : Int) (e : Ending) (w' : World) : Prop :=
  e = .returned (.tuple #[.int .u64 hd, .int .i64 0]) ∧ ∃ Sa' F' B' lv', RhW w' p pa Sa' A' F' B' top L' lv' ∧ (∀ k, k < w.heap.size → F' k = F k) ∧ FrF F w w'
set_option maxRecDepth 100000 in
set_option maxHeartbeats 4000000 in
theorem RMake_whole (h : RhW w p pa Sa A F B top L lv) (hz : ∀ o ∈ L, 1 ≤ o.h) (hl : L.length ≤ 65536) {n : Nat} (hn8 : n ≤ 8) {i g : Nat} (hp : Put A 0 i g A') (hne : ∀ o ∈ L, o.h ≠ hand i g) (h1 : 1 ≤ hand i g) :
    Calls Try.prog 37 #[.pointer (some ⟨p, 0, none⟩), .int .i64 n, .int .u64 0] w (MkP w p pa F top (L ++ [newOb (hand i g) 0 n]) A' (hand i g)) := by
  have HP := hid (RPut_some h.ar hp)
  have c1p := h.c1
  have d0 : decide ((n : Int) < 0) = false := by simp
  have d1 : decide (8 < (n : Int)) = false := by simp; omega
  obtain ⟨hd, hhd⟩ : ∃ hd, hd = hand i g := ⟨_, rfl⟩
  rw [← hhd] at HP hne h1 ⊢
  have d2 : (hd == 0) = false := by simp; omega
  obtain ⟨i0, hi, hz0, hz1, hz2⟩ := info_parts infoOp
  have hi' := hid hi
  have hz0' := hid hz0
  have hz1' := hid hz1
  have hz2' := hid hz2
  obtain ⟨j0, hj, hy0, hy1, hy2⟩ := info_parts infoLkB
  have hj' := hid hj
  have hy0' := hid hy0
  have hy1' := hid hy1
  have hy2' := hid hy2
  have HH := hid h
  have HZ := hid hz
  have HNE := hid hne
  have H1 := hid h1
  clear hi hz0 hz1 hz2 hj hy0 hy1 hy2 hz hne h1 hp hhd h
  go_enter Try.func37, Try.ntmps37
  go_upto_region 13 with (go_at_call 58; refine HP.out.mono ?_; rintro e w1 ⟨rfl, ha1, hf1⟩)
  have h1 := HH.out.arena HZ.out ha1 hf1 (fun k hk => by
    rcases hk with e | e
    · exact .inl e
    · exact .inr e.1)
  have hfl : FrF F w w1 := hf1.mono (fun k hk _ => by rw [HH.out.fa k hk]; simp [outL])
  have hsz1 := hf1.size
  obtain ⟨a, k, hv⟩ := h1.shape
  have cp2 := h1.c2
  have zp2 := h1.fz 2
  have hpl := h1.lt
  have hlr := h1.lr
  have hnp : lv.ownBlock ≠ some p := fun e => by have := h1.fl _ e; rw [h1.fp] at this; cases this
  rw [hv] at cp2 hlr hnp
  obtain ⟨m, hm⟩ : ∃ m, m = L.length := ⟨_, rfl⟩
  rw [← hm] at cp2 hlr hnp hl
  have HM := hid hm
  have HV := hid hv
  have HR1 := hid h1
  have HLR := hid hlr
  have HFL := hid hfl
  clear ha1 hf1 h1 hv hlr hfl c1p hm
  refine D.wp_region_mix [0, 0, 0, 0, 1, 0, 0, 0, 2, 0, 2, 2, 2, 0, 0, 3] (fun W => W.cell? ⟨p, 2, none⟩ = some (.slice a m k)) (by kernel_rfl) (by kernel_rfl) (by simpa using cp2) ?_
  obtain ⟨w2, hw2⟩ : ∃ w2, w2 = w1.drew := ⟨_, rfl⟩
  rw [← hw2]
  repeat (first
    | (refine' C.wpMix_value _ rfl rfl _ _; rotate_left; (solve | (intro W; go_simp) | (intro W; go_simp; with_reducible rfl)); simp only [Act.put, List.setIfInBounds_toArray, List.set_cons_zero, List.set_cons_succ])
    | (refine' C.wpMix_read _ rfl rfl _ _; rotate_left; (solve | (rintro W h1; go_simp) | (rintro W h1; go_simp; with_reducible rfl)); simp only [Act.put, List.setIfInBounds_toArray, List.set_cons_zero, List.set_cons_succ]))
  have hmk := run_make (P := Try.prog) w2 77 TLk j0 _ Try.underlying77 hj'.out hy0'.out .i64 .i64 (n : Int) (n : Int) (by omega) (Int.le_refl _) (by rw [hy2'.out]; omega) (by omega)
  simp only [Int.toNat_natCast, hy1'.out] at hmk
  obtain ⟨w3, hw3⟩ : ∃ w3, w3 = w2.alloc (.cells (madeCells (Value.agg #[.int .i64 0, .int .u64 0]).cells (n * 2)) TLk) := ⟨_, rfl⟩
  rw [← hw3] at hmk
  have HMK := hid hmk
  have hpl2 : p < w2.heap.size := by rw [hw2]; exact hpl
  have cp2' : w2.cell? ⟨p, 2, none⟩ = some (.slice a m k) := by rw [hw2]; exact cp2
  have hb23 : Below w2.heap.size w2 w3 := by rw [hw3]; exact (Below.refl _ _).alloc (Nat.le_refl _) _
  have cp3 : w3.cell? ⟨p, 2, none⟩ = some (.slice a m k) := by rw [World.cell?_of_block (hb23.block p hpl2)]; exact cp2'
  obtain ⟨sb, hsb⟩ : ∃ b, b = w2.heap.size := ⟨_, rfl⟩
  have HS3 := hid (show w3.heap.size = sb + 1 by rw [hw3, hsb]; simp)
  have CP3 := hid cp3
  clear hmk cp3
  refine C.wpMix_write (.slice (some ⟨sb, 0, none⟩) n n) w3 (by decide) rfl ?nrun1 ?nS1 ?nrest1
  case nrun1 =>
    have hmk := HMK.out
    rw [← hsb] at hmk
    unfold execOp
    simp [Act.eval, hmk]
  case nS1 => exact fun _ => CP3.out
  simp only [Act.put, List.setIfInBounds_toArray, List.set_cons_zero, List.set_cons_succ]
  repeat (first
    | (refine' C.wpMix_value _ rfl rfl _ _; rotate_left; (solve | (intro W; go_simp) | (intro W; go_simp; with_reducible rfl)); simp only [Act.put, List.setIfInBounds_toArray, List.set_cons_zero, List.set_cons_succ])
    | (refine' C.wpMix_read _ rfl rfl _ _; rotate_left; (solve | (rintro W h1; go_simp) | (rintro W h1; go_simp; with_reducible rfl)); simp only [Act.put, List.setIfInBounds_toArray, List.set_cons_zero, List.set_cons_succ]))
  obtain ⟨w4, hw4⟩ : ∃ w4, w4 = w3.alloc (.cells #[.int .u64 hd, .int .u64 0, .int .u32 1, .int .i64 0, .slice (some ⟨sb, 0, none⟩) n n, .slice none 0 0] 101) := ⟨_, rfl⟩
  obtain ⟨ob, hob⟩ : ∃ b, b = w3.heap.size := ⟨_, rfl⟩
  have hb34 : Below w3.heap.size w3 w4 := by rw [hw4]; exact (Below.refl _ _).alloc (Nat.le_refl _) _
  have hpl3 : p < w3.heap.size := Nat.lt_of_lt_of_le hpl2 hb23.size
  have CP4 := hid (show w4.cell? ⟨p, 2, none⟩ = some (.slice a m k) by rw [World.cell?_of_block (hb34.block p hpl3)]; exact CP3.out)
  have HW4 := hid hw4
  refine C.wpMix_write (.pointer (some ⟨ob, 0, none⟩)) w4 (by decide) rfl ?nrun2 ?nS2 ?nrest2
  case nrun2 =>
    rw [HW4.out, hob]
    go_simp
  case nS2 => exact fun _ => CP4.out
  simp only [Act.put, List.setIfInBounds_toArray, List.set_cons_zero, List.set_cons_succ]
  repeat (first
    | (refine' C.wpMix_value _ rfl rfl _ _; rotate_left; (solve | (intro W; go_simp) | (intro W; go_simp; with_reducible rfl)); simp only [Act.put, List.setIfInBounds_toArray, List.set_cons_zero, List.set_cons_succ])
    | (refine' C.wpMix_read _ rfl rfl _ _; rotate_left; (solve | (rintro W h1; go_simp) | (rintro W h1; go_simp; with_reducible rfl)); simp only [Act.put, List.setIfInBounds_toArray, List.set_cons_zero, List.set_cons_succ]))
  obtain ⟨w5, hw5⟩ : ∃ w5, w5 = w4.alloc (.cells #[.pointer (some ⟨ob, 0, none⟩)] TOp) := ⟨_, rfl⟩
  have hb45 : Below w4.heap.size w4 w5 := by rw [hw5]; exact (Below.refl _ _).alloc (Nat.le_refl _) _
  have hpl4 : p < w4.heap.size := Nat.lt_of_lt_of_le hpl3 hb34.size
  have CP5 := hid (show w5.cell? ⟨p, 2, none⟩ = some (.slice a m k) by rw [World.cell?_of_block (hb45.block p hpl4)]; exact CP4.out)
  have HW5 := hid hw5
  refine C.wpMix_write (.slice (some ⟨w4.heap.size, 0, none⟩) 1 1) w5 (by decide) rfl ?nrun3 ?nS3 ?nrest3
  case nrun3 =>
    rw [HW5.out]
    go_simp
  case nS3 => exact fun _ => CP5.out
  simp only [Act.put, List.setIfInBounds_toArray, List.set_cons_zero, List.set_cons_succ]
  have hb15 : Below w1.heap.size w1 w5 := by
    have h2 : Below w1.heap.size w1 w2 := by rw [hw2]; exact (Below.refl _ _).drew
    exact ((h2.trans (hb23.mono h2.size)).trans (hb34.mono (Nat.le_trans h2.size hb23.size))).trans (hb45.mono (Nat.le_trans (Nat.le_trans h2.size hb23.size) hb34.size))
  have hs21 : w2.heap.size = w1.heap.size := by rw [hw2]; rfl
  have hrow5 : w5.ownsRow 0 TOp 1 (.slice a m k) m (opv B L) := by
    have h9 := (Fr.of_below (fp := fun _ => False) hb15).owns HLR.out (fun _ _ e => e)
    exact h9
  have hnews : w5.heap[w4.heap.size]? = some (.cells #[.pointer (some ⟨ob, 0, none⟩)] TOp (0, 0)) := by rw [hw5]; exact heap_alloc_new _ _
  have hobj5 : w5.heap[ob]? = some (.cells #[.int .u64 hd, .int .u64 0, .int .u32 1, .int .i64 0, .slice (some ⟨sb, 0, none⟩) n n, .slice none 0 0] 101 (0, 0)) := by
    rw [hob, hb45.block _ (by rw [hw4]; simp), hw4]
    exact heap_alloc_new _ _
  have hsl5 : w5.ownsRow 0 TLk 2 (.slice (some ⟨sb, 0, none⟩) n n) n (lkv (List.replicate n ⟨0, 0⟩)) := by
    have h9 : w3.ownsRow 0 TLk 2 (.slice (some ⟨sb, 0, none⟩) n n) n (lkv (List.replicate n ⟨0, 0⟩)) := by
      have h7 := World.ownsRow_lit (base := 0) (e := TLk) (size := 2) w2 (madeCells (Value.agg #[.int .i64 0, .int .u64 0]).cells (n * 2)) n (Nat.zero_le _) (by unfold maxLen; omega) (size_madeCells _ _)
      rw [made_lkv] at h7
      rw [hsb, hw3]
      exact h7
    exact (Fr.of_below (fp := fun _ => False) (hb34.trans (hb45.mono hb34.size))).owns h9 (fun _ _ e => e)
  have hz5 : w5.heap.size = w4.heap.size + 1 := by rw [hw5]; simp
  have hz4 : w4.heap.size = ob + 1 := by rw [hw4, hob]; simp
  have hz3 : ob = sb + 1 := by rw [hob]; exact HS3.out
  have HB15 := hid hb15
  have HR5 := hid hrow5
  have HNEWS := hid hnews
  have HOBJ := hid hobj5
  have HSL := hid hsl5
  have HZ5 := hid hz5
  have HZ4 := hid hz4
  have HZ3 := hid hz3
  have HSB := hid (hsb.trans hs21)
  have HPL1 := hid hpl
  have hpl5 : p < w5.heap.size := by omega
  have hlm : m ≤ 65536 := hl
  clear hb15 hrow5 hnews hobj5 hsl5 hz5 hz4 hz3 hs21 hw5 hw4 hw3 hob hsb hb45 hb34 hb23 hw2 cp2 cp2' hpl2 hpl3 hpl4 HW4 HW5 CP3 CP4 HMK HS3
  obtain ⟨v6, w6, q1, hown6, hgrow6, _, hat6⟩ := run_append_own_at (P := Try.prog) w5 0 51 51 TOp i0 _ 1 8 Try.underlying51 hi'.out hz0'.out hz1'.out hz2'.out rfl (by decide) (.slice a m k) m (opv B L) HR5.out ⟨w4.heap.size, 0, none⟩ 1 1 [.pointer (some ⟨ob, 0, none⟩)] rfl (World.news_of_block HNEWS.out) (by simp [Value.oneCell']) (by unfold maxLen; omega) (by omega) (Nat.zero_le _)
  obtain ⟨g6, k6, rfl, _⟩ := hown6.form (by omega)
  have hb6 : w6.heap[p]? = w5.heap[p]? := hgrow6.block p hpl5 (fun e => hnp e.symm)
  have cp6 : w6.cell? ⟨p, 2, none⟩ = some (.slice a m k) := (World.cell?_of_block hb6).trans CP5.out
  have zp6 : w6.frozen? ⟨p, 2, none⟩ = false := by rw [World.frozen?_of_block hb6, World.frozen?_of_block (HB15.out.block p HPL1.out)]; exact zp2
  have Q1 := hid q1
  refine C.wpMix_write (.slice (some ⟨g6, 0, none⟩) (m + 1) k6) w6 (by decide) rfl ?nrun5 ?nS5 ?nrest5
  case nrun5 =>
    have q1 := Q1.out
    unfold execOp
    simp only [resolve, invoke, builtin, Sem.run_bind, Sem.run_pure, Result.andThen_ok, List.map_toArray, List.map_cons, List.map_nil]
    simp [Act.eval, q1]
  case nS5 => exact fun _ => cp6
  clear q1
  have HO6 := hid hown6
  have HG6 := hid hgrow6
  have HA6 := hid hat6
  have HB6 := hid hb6
  clear hown6 hgrow6 hat6 hb6
  simp only [Act.put, List.setIfInBounds_toArray, List.set_cons_zero, List.set_cons_succ]
  repeat (first
    | (refine' C.wpMix_value _ rfl rfl _ _; rotate_left; (solve | (intro W; go_simp) | (intro W; go_simp; with_reducible rfl)); simp only [Act.put, List.setIfInBounds_toArray, List.set_cons_zero, List.set_cons_succ]))
  refine C.wpMix_skip (w6.setCell ⟨p, 2, none⟩ (.slice (some ⟨g6, 0, none⟩) (m + 1) k6)) (by decide) rfl ?nrun4 (fun h => by cases h) ?nrest4
  case nrun4 => go_simp
  simp only [Act.put]
  refine C.wpMix_end ?_
  go_wp2
  go_ret2
  have hr1 := HR1.out
  have hlv := HV.out
  subst hlv
  have hs1 := HSB.out
  have hs3 := HZ3.out
  have hs4 := HZ4.out
  have hs5 := HZ5.out
  have hfr : Fr (fun q => q = p ∨ (Value.slice a L.length k).ownBlock = some q) w1 (w6.setCell ⟨p, 2, none⟩ (.slice (some ⟨g6, 0, none⟩) (m + 1) k6)) :=
    ((Fr.of_below HB15.out).grown HG6.out (fun q hq _ => .inr (by rw [← HM.out]; exact hq))).setCell _ _ (fun _ => .inl rfl)
  have hne6 : ∀ q, (Value.slice a m k).ownBlock = some q → q < w1.heap.size := fun q hq => (hr1.lr.lt q (by rw [← HM.out]; exact hq)).2
  have hat : ∀ q, (Value.slice (some ⟨g6, 0, none⟩) (m + 1) k6).ownBlock = some q → (Value.slice a m k).ownBlock = some q ∨ q = w4.heap.size + 1 := fun q hq => by
    rcases HA6.out with e | e
    · left; rw [← e]; exact hq
    · right
      rw [hq] at e
      simp only [Option.some.injEq] at e
      omega
  have hg6p : (Value.slice (some ⟨g6, 0, none⟩) (m + 1) k6).ownBlock ≠ some p := fun e => by
    rcases hat p e with e2 | e2
    · exact hnp e2
    · omega
  have keep : ∀ b, b < w5.heap.size → b ≠ p → w1.heap.size ≤ b → (w6.setCell ⟨p, 2, none⟩ (.slice (some ⟨g6, 0, none⟩) (m + 1) k6)).heap[b]? = w5.heap[b]? := fun b h1 h2 h3 => by
    rw [Below.heap_setCell _ _ _ _ h2]
    exact HG6.out.block b h1 (fun e => by have := hne6 b e.symm; omega)
  have hfin := hr1.add HZ.out (hd := hd) (outer := 0) (n := n) (sb := sb) (ob := ob) (lv' := .slice (some ⟨g6, 0, none⟩) (m + 1) k6) HNE.out hfr
    (by
      have h9 : w6.heap[p]? = some (.cells #[.int .u32 top, .pointer (some ⟨pa, 0, none⟩), .slice a L.length k] 53 (0, 0)) := by rw [HB6.out, HB15.out.block p HPL1.out]; exact hr1.hp
      rw [heap_setCell_same _ _ _ _ _ _ h9]; rfl) (by omega) (by omega) (by omega)
    (by rw [keep ob (by omega) (by omega) (by omega)]; exact HOBJ.out)
    (by
      refine ownsRow_setCell_other ?_ (by simp [Value.ownBlock]; omega) _
      exact (Fr.grown (fp := fun q => (Value.slice a m k).ownBlock = some q) (Fr.refl _ _) HG6.out (fun q hq _ => hq)).owns HSL.out (fun q hq e => by
        simp [Value.ownBlock] at hq
        subst hq
        have := hne6 _ e
        omega))
    (by rw [← HM.out]; exact ownsRow_setCell_other HO6.out hg6p _)
    (fun q hq => by
      rcases hat q hq with e | e
      · left; rw [← HM.out]; exact e
      · right; omega)
  refine ⟨rfl, _, _, _, _, hfin, fun q hq => ?_, FrF.trans HFL.out (F1 := nw F w.heap.size (0, 0)) (hfr.mono (fun q hq hlt => ?_)) (fun q hq => nw_lt hq)⟩
  · unfold adF
    rw [if_pos (by omega), nw_lt hq]
  · rcases hq with rfl | hq
    · rw [hr1.fp]; simp [outL]
    · rw [hr1.fl q hq]; simp [outL]
end
end Go.Proofs.Ytmkajdfajcodjaa

namespace Go.Proofs.Ytmkajdfajcodjaa
open Go Go.ChangeShapes Go.WideShapes Go.ChangeAt Go.RowKit

section
variable {w w' : World} {p pa : Nat} {Sa : Nat → Prop} {A A' : Ar} {F : Nat → Lab} {B : Int → Nat} {top : Int} {L : HL} {lv : Value}
set_option maxRecDepth 100000 in
set_option maxHeartbeats 4000000 in
theorem RMake_in (h : RhW w p pa Sa A F B top L lv) (hnd : Nd L) {o : Ob} (ho : o ∈ L) (hoo : o.outer = 0) (hil : o.inners.length ≤ 65536) (hz : ∀ o ∈ L, 1 ≤ o.h) (hl : L.length ≤ 65536) {n : Nat} (hn8 : n ≤ 8) {i g : Nat} (hp : Put A 0 i g A') (hne : ∀ o ∈ L, o.h ≠ hand i g) (h1 : 1 ≤ hand i g) :
    Calls Try.prog 37 #[.pointer (some ⟨p, 0, none⟩), .int .i64 n, .int .u64 o.h] w (MkP w p pa F top (addIn L o.h (hand i g) ++ [newOb (hand i g) o.h n]) A' (hand i g)) := by
  have HFI := hid (RFind_some h (by omega) (fnd_mem hnd ho))
  obtain ⟨sv0, iv0, hb0⟩ := h.ob o ho
  have co1 := hb0.c1
  rw [hoo] at co1
  have hoz := hz o ho
  have d3 : (o.h != 0) = true := by simp; omega
  obtain ⟨oh, hoh⟩ : ∃ x, x = o.h := ⟨_, rfl⟩
  rw [← hoh] at HFI co1 hoz d3 ⊢
  have HOH := hid hoh
  have HO := hid ho
  have HND := hid hnd
  have HIL := hid hil
  have HOZ := hid hoz
  clear hb0 hoo hoh ho hnd hil hoz
  have HP := hid (RPut_some h.ar hp)
  have c1p := h.c1
  have d0 : decide ((n : Int) < 0) = false := by simp
  have d1 : decide (8 < (n : Int)) = false := by simp; omega
  obtain ⟨hd, hhd⟩ : ∃ hd, hd = hand i g := ⟨_, rfl⟩
  rw [← hhd] at HP hne h1 ⊢
  have d2 : (hd == 0) = false := by simp; omega
  obtain ⟨i0, hi, hz0, hz1, hz2⟩ := info_parts infoOp
  have hi' := hid hi
  have hz0' := hid hz0
  have hz1' := hid hz1
  have hz2' := hid hz2
  obtain ⟨j0, hj, hy0, hy1, hy2⟩ := info_parts infoLkB
  have hj' := hid hj
  have hy0' := hid hy0
  have hy1' := hid hy1
  have hy2' := hid hy2
  have HH := hid h
  have HZ := hid hz
  have HNE := hid hne
  have H1 := hid h1
  clear hi hz0 hz1 hz2 hj hy0 hy1 hy2 hz hne h1 hp hhd h
  go_enter Try.func37, Try.ntmps37
  go_upto_region 13 with (first | (go_at_call 43; refine HFI.out.mono ?_; rintro e w0 ⟨rfl, rfl⟩) | (go_at_call 58; refine HP.out.mono ?_; rintro e w1 ⟨rfl, ha1, hf1⟩))
  clear co1
  have h1 := HH.out.arena HZ.out ha1 hf1 (fun k hk => by
    rcases hk with e | e
    · exact .inl e
    · exact .inr e.1)
  have hfl : FrF F w w1 := hf1.mono (fun k hk _ => by rw [HH.out.fa k hk]; simp [outL])
  have hsz1 := hf1.size
  obtain ⟨a, k, hv⟩ := h1.shape
  have cp2 := h1.c2
  have zp2 := h1.fz 2
  have hpl := h1.lt
  have hlr := h1.lr
  have hnp : lv.ownBlock ≠ some p := fun e => by have := h1.fl _ e; rw [h1.fp] at this; cases this
  rw [hv] at cp2 hlr hnp
  obtain ⟨m, hm⟩ : ∃ m, m = L.length := ⟨_, rfl⟩
  rw [← hm] at cp2 hlr hnp hl
  have HM := hid hm
  have HV := hid hv
  have HR1 := hid h1
  have HLR := hid hlr
  have HFL := hid hfl
  clear ha1 hf1 h1 hv hlr hfl c1p hm
  refine D.wp_region_mix [0, 0, 0, 0, 1, 0, 0, 0, 2, 0, 2, 2, 2, 0, 0, 3] (fun W => W.cell? ⟨p, 2, none⟩ = some (.slice a m k)) (by kernel_rfl) (by kernel_rfl) (by simpa using cp2) ?_
  obtain ⟨w2, hw2⟩ : ∃ w2, w2 = w1.drew := ⟨_, rfl⟩
  rw [← hw2]
  repeat (first
    | (refine' C.wpMix_value _ rfl rfl _ _; rotate_left; (solve | (intro W; go_simp) | (intro W; go_simp; with_reducible rfl)); simp only [Act.put, List.setIfInBounds_toArray, List.set_cons_zero, List.set_cons_succ])
    | (refine' C.wpMix_read _ rfl rfl _ _; rotate_left; (solve | (rintro W h1; go_simp) | (rintro W h1; go_simp; with_reducible rfl)); simp only [Act.put, List.setIfInBounds_toArray, List.set_cons_zero, List.set_cons_succ]))
  have hmk := run_make (P := Try.prog) w2 77 TLk j0 _ Try.underlying77 hj'.out hy0'.out .i64 .i64 (n : Int) (n : Int) (by omega) (Int.le_refl _) (by rw [hy2'.out]; omega) (by omega)
  simp only [Int.toNat_natCast, hy1'.out] at hmk
  obtain ⟨w3, hw3⟩ : ∃ w3, w3 = w2.alloc (.cells (madeCells (Value.agg #[.int .i64 0, .int .u64 0]).cells (n * 2)) TLk) := ⟨_, rfl⟩
  rw [← hw3] at hmk
  have HMK := hid hmk
  have hpl2 : p < w2.heap.size := by rw [hw2]; exact hpl
  have cp2' : w2.cell? ⟨p, 2, none⟩ = some (.slice a m k) := by rw [hw2]; exact cp2
  have hb23 : Below w2.heap.size w2 w3 := by rw [hw3]; exact (Below.refl _ _).alloc (Nat.le_refl _) _
  have cp3 : w3.cell? ⟨p, 2, none⟩ = some (.slice a m k) := by rw [World.cell?_of_block (hb23.block p hpl2)]; exact cp2'
  obtain ⟨sb, hsb⟩ : ∃ b, b = w2.heap.size := ⟨_, rfl⟩
  have HS3 := hid (show w3.heap.size = sb + 1 by rw [hw3, hsb]; simp)
  have CP3 := hid cp3
  clear hmk cp3
  refine C.wpMix_write (.slice (some ⟨sb, 0, none⟩) n n) w3 (by decide) rfl ?nrun1 ?nS1 ?nrest1
  case nrun1 =>
    have hmk := HMK.out
    rw [← hsb] at hmk
    unfold execOp
    simp [Act.eval, hmk]
  case nS1 => exact fun _ => CP3.out
  simp only [Act.put, List.setIfInBounds_toArray, List.set_cons_zero, List.set_cons_succ]
  repeat (first
    | (refine' C.wpMix_value _ rfl rfl _ _; rotate_left; (solve | (intro W; go_simp) | (intro W; go_simp; with_reducible rfl)); simp only [Act.put, List.setIfInBounds_toArray, List.set_cons_zero, List.set_cons_succ])
    | (refine' C.wpMix_read _ rfl rfl _ _; rotate_left; (solve | (rintro W h1; go_simp) | (rintro W h1; go_simp; with_reducible rfl)); simp only [Act.put, List.setIfInBounds_toArray, List.set_cons_zero, List.set_cons_succ]))
  obtain ⟨w4, hw4⟩ : ∃ w4, w4 = w3.alloc (.cells #[.int .u64 hd, .int .u64 oh, .int .u32 1, .int .i64 0, .slice (some ⟨sb, 0, none⟩) n n, .slice none 0 0] 101) := ⟨_, rfl⟩
  obtain ⟨ob, hob⟩ : ∃ b, b = w3.heap.size := ⟨_, rfl⟩
  have hb34 : Below w3.heap.size w3 w4 := by rw [hw4]; exact (Below.refl _ _).alloc (Nat.le_refl _) _
  have hpl3 : p < w3.heap.size := Nat.lt_of_lt_of_le hpl2 hb23.size
  have CP4 := hid (show w4.cell? ⟨p, 2, none⟩ = some (.slice a m k) by rw [World.cell?_of_block (hb34.block p hpl3)]; exact CP3.out)
  have HW4 := hid hw4
  refine C.wpMix_write (.pointer (some ⟨ob, 0, none⟩)) w4 (by decide) rfl ?nrun2 ?nS2 ?nrest2
  case nrun2 =>
    rw [HW4.out, hob]
    go_simp
  case nS2 => exact fun _ => CP4.out
  simp only [Act.put, List.setIfInBounds_toArray, List.set_cons_zero, List.set_cons_succ]
  repeat (first
    | (refine' C.wpMix_value _ rfl rfl _ _; rotate_left; (solve | (intro W; go_simp) | (intro W; go_simp; with_reducible rfl)); simp only [Act.put, List.setIfInBounds_toArray, List.set_cons_zero, List.set_cons_succ])
    | (refine' C.wpMix_read _ rfl rfl _ _; rotate_left; (solve | (rintro W h1; go_simp) | (rintro W h1; go_simp; with_reducible rfl)); simp only [Act.put, List.setIfInBounds_toArray, List.set_cons_zero, List.set_cons_succ]))
  obtain ⟨w5, hw5⟩ : ∃ w5, w5 = w4.alloc (.cells #[.pointer (some ⟨ob, 0, none⟩)] TOp) := ⟨_, rfl⟩
  have hb45 : Below w4.heap.size w4 w5 := by rw [hw5]; exact (Below.refl _ _).alloc (Nat.le_refl _) _
  have hpl4 : p < w4.heap.size := Nat.lt_of_lt_of_le hpl3 hb34.size
  have CP5 := hid (show w5.cell? ⟨p, 2, none⟩ = some (.slice a m k) by rw [World.cell?_of_block (hb45.block p hpl4)]; exact CP4.out)
  have HW5 := hid hw5
  refine C.wpMix_write (.slice (some ⟨w4.heap.size, 0, none⟩) 1 1) w5 (by decide) rfl ?nrun3 ?nS3 ?nrest3
  case nrun3 =>
    rw [HW5.out]
    go_simp
  case nS3 => exact fun _ => CP5.out
  simp only [Act.put, List.setIfInBounds_toArray, List.set_cons_zero, List.set_cons_succ]
  have hb15 : Below w1.heap.size w1 w5 := by
    have h2 : Below w1.heap.size w1 w2 := by rw [hw2]; exact (Below.refl _ _).drew
    exact ((h2.trans (hb23.mono h2.size)).trans (hb34.mono (Nat.le_trans h2.size hb23.size))).trans (hb45.mono (Nat.le_trans (Nat.le_trans h2.size hb23.size) hb34.size))
  have hs21 : w2.heap.size = w1.heap.size := by rw [hw2]; rfl
  have hrow5 : w5.ownsRow 0 TOp 1 (.slice a m k) m (opv B L) := by
    have h9 := (Fr.of_below (fp := fun _ => False) hb15).owns HLR.out (fun _ _ e => e)
    exact h9
  have hnews : w5.heap[w4.heap.size]? = some (.cells #[.pointer (some ⟨ob, 0, none⟩)] TOp (0, 0)) := by rw [hw5]; exact heap_alloc_new _ _
  have hobj5 : w5.heap[ob]? = some (.cells #[.int .u64 hd, .int .u64 oh, .int .u32 1, .int .i64 0, .slice (some ⟨sb, 0, none⟩) n n, .slice none 0 0] 101 (0, 0)) := by
    rw [hob, hb45.block _ (by rw [hw4]; simp), hw4]
    exact heap_alloc_new _ _
  have hsl5 : w5.ownsRow 0 TLk 2 (.slice (some ⟨sb, 0, none⟩) n n) n (lkv (List.replicate n ⟨0, 0⟩)) := by
    have h9 : w3.ownsRow 0 TLk 2 (.slice (some ⟨sb, 0, none⟩) n n) n (lkv (List.replicate n ⟨0, 0⟩)) := by
      have h7 := World.ownsRow_lit (base := 0) (e := TLk) (size := 2) w2 (madeCells (Value.agg #[.int .i64 0, .int .u64 0]).cells (n * 2)) n (Nat.zero_le _) (by unfold maxLen; omega) (size_madeCells _ _)
      rw [made_lkv] at h7
      rw [hsb, hw3]
      exact h7
    exact (Fr.of_below (fp := fun _ => False) (hb34.trans (hb45.mono hb34.size))).owns h9 (fun _ _ e => e)
  have hz5 : w5.heap.size = w4.heap.size + 1 := by rw [hw5]; simp
  have hz4 : w4.heap.size = ob + 1 := by rw [hw4, hob]; simp
  have hz3 : ob = sb + 1 := by rw [hob]; exact HS3.out
  have HB15 := hid hb15
  have HR5 := hid hrow5
  have HNEWS := hid hnews
  have HOBJ := hid hobj5
  have HSL := hid hsl5
  have HZ5 := hid hz5
  have HZ4 := hid hz4
  have HZ3 := hid hz3
  have HSB := hid (hsb.trans hs21)
  have HPL1 := hid hpl
  have hpl5 : p < w5.heap.size := by omega
  have hlm : m ≤ 65536 := hl
  clear hb15 hrow5 hnews hobj5 hsl5 hz5 hz4 hz3 hs21 hw5 hw4 hw3 hob hsb hb45 hb34 hb23 hw2 cp2 cp2' hpl2 hpl3 hpl4 HW4 HW5 CP3 CP4 HMK HS3
  obtain ⟨v6, w6, q1, hown6, hgrow6, _, hat6⟩ := run_append_own_at (P := Try.prog) w5 0 51 51 TOp i0 _ 1 8 Try.underlying51 hi'.out hz0'.out hz1'.out hz2'.out rfl (by decide) (.slice a m k) m (opv B L) HR5.out ⟨w4.heap.size, 0, none⟩ 1 1 [.pointer (some ⟨ob, 0, none⟩)] rfl (World.news_of_block HNEWS.out) (by simp [Value.oneCell']) (by unfold maxLen; omega) (by omega) (Nat.zero_le _)
  obtain ⟨g6, k6, rfl, _⟩ := hown6.form (by omega)
  have hb6 : w6.heap[p]? = w5.heap[p]? := hgrow6.block p hpl5 (fun e => hnp e.symm)
  have cp6 : w6.cell? ⟨p, 2, none⟩ = some (.slice a m k) := (World.cell?_of_block hb6).trans CP5.out
  have zp6 : w6.frozen? ⟨p, 2, none⟩ = false := by rw [World.frozen?_of_block hb6, World.frozen?_of_block (HB15.out.block p HPL1.out)]; exact zp2
  have Q1 := hid q1
  refine C.wpMix_write (.slice (some ⟨g6, 0, none⟩) (m + 1) k6) w6 (by decide) rfl ?nrun5 ?nS5 ?nrest5
  case nrun5 =>
    have q1 := Q1.out
    unfold execOp
    simp only [resolve, invoke, builtin, Sem.run_bind, Sem.run_pure, Result.andThen_ok, List.map_toArray, List.map_cons, List.map_nil]
    simp [Act.eval, q1]
  case nS5 => exact fun _ => cp6
  clear q1
  have HO6 := hid hown6
  have HG6 := hid hgrow6
  have HA6 := hid hat6
  have HB6 := hid hb6
  clear hown6 hgrow6 hat6 hb6
  simp only [Act.put, List.setIfInBounds_toArray, List.set_cons_zero, List.set_cons_succ]
  repeat (first
    | (refine' C.wpMix_value _ rfl rfl _ _; rotate_left; (solve | (intro W; go_simp) | (intro W; go_simp; with_reducible rfl)); simp only [Act.put, List.setIfInBounds_toArray, List.set_cons_zero, List.set_cons_succ]))
  refine C.wpMix_skip (w6.setCell ⟨p, 2, none⟩ (.slice (some ⟨g6, 0, none⟩) (m + 1) k6)) (by decide) rfl ?nrun4 (fun h => by cases h) ?nrest4
  case nrun4 => go_simp
  simp only [Act.put]
  refine C.wpMix_end ?_
  have hr1 := HR1.out
  have hlv := HV.out
  subst hlv
  have hs1 := HSB.out
  have hs3 := HZ3.out
  have hs4 := HZ4.out
  have hs5 := HZ5.out
  have hfr : Fr (fun q => q = p ∨ (Value.slice a L.length k).ownBlock = some q) w1 (w6.setCell ⟨p, 2, none⟩ (.slice (some ⟨g6, 0, none⟩) (m + 1) k6)) :=
    ((Fr.of_below HB15.out).grown HG6.out (fun q hq _ => .inr (by rw [← HM.out]; exact hq))).setCell _ _ (fun _ => .inl rfl)
  have hne6 : ∀ q, (Value.slice a m k).ownBlock = some q → q < w1.heap.size := fun q hq => (hr1.lr.lt q (by rw [← HM.out]; exact hq)).2
  have hat : ∀ q, (Value.slice (some ⟨g6, 0, none⟩) (m + 1) k6).ownBlock = some q → (Value.slice a m k).ownBlock = some q ∨ q = w4.heap.size + 1 := fun q hq => by
    rcases HA6.out with e | e
    · left; rw [← e]; exact hq
    · right
      rw [hq] at e
      simp only [Option.some.injEq] at e
      omega
  have hg6p : (Value.slice (some ⟨g6, 0, none⟩) (m + 1) k6).ownBlock ≠ some p := fun e => by
    rcases hat p e with e2 | e2
    · exact hnp e2
    · omega
  have keep : ∀ b, b < w5.heap.size → b ≠ p → w1.heap.size ≤ b → (w6.setCell ⟨p, 2, none⟩ (.slice (some ⟨g6, 0, none⟩) (m + 1) k6)).heap[b]? = w5.heap[b]? := fun b h1 h2 h3 => by
    rw [Below.heap_setCell _ _ _ _ h2]
    exact HG6.out.block b h1 (fun e => by have := hne6 b e.symm; omega)
  have hfin := hr1.add HZ.out (hd := hd) (outer := oh) (n := n) (sb := sb) (ob := ob) (lv' := .slice (some ⟨g6, 0, none⟩) (m + 1) k6) HNE.out hfr
    (by
      have h9 : w6.heap[p]? = some (.cells #[.int .u32 top, .pointer (some ⟨pa, 0, none⟩), .slice a L.length k] 53 (0, 0)) := by rw [HB6.out, HB15.out.block p HPL1.out]; exact hr1.hp
      rw [heap_setCell_same _ _ _ _ _ _ h9]; rfl) (by omega) (by omega) (by omega)
    (by rw [keep ob (by omega) (by omega) (by omega)]; exact HOBJ.out)
    (by
      refine ownsRow_setCell_other ?_ (by simp [Value.ownBlock]; omega) _
      exact (Fr.grown (fp := fun q => (Value.slice a m k).ownBlock = some q) (Fr.refl _ _) HG6.out (fun q hq _ => hq)).owns HSL.out (fun q hq e => by
        simp [Value.ownBlock] at hq
        subst hq
        have := hne6 _ e
        omega))
    (by rw [← HM.out]; exact ownsRow_setCell_other HO6.out hg6p _)
    (fun q hq => by
      rcases hat q hq with e | e
      · left; rw [← HM.out]; exact e
      · right; omega)
  have hag : ∀ q, q < w.heap.size → adF (nw F w.heap.size (0, 0)) w1.heap.size sb ob hd q = F q := fun q hq => by
    unfold adF
    rw [if_pos (by omega), nw_lt hq]
  have hff : FrF F w (w6.setCell ⟨p, 2, none⟩ (.slice (some ⟨g6, 0, none⟩) (m + 1) k6)) := FrF.trans HFL.out (F1 := nw F w.heap.size (0, 0)) (hfr.mono (fun q hq hlt => by
    rcases hq with rfl | hq
    · rw [hr1.fp]; simp [outL]
    · rw [hr1.fl q hq]; simp [outL])) (fun q hq => nw_lt hq)
  obtain ⟨w7, hw7⟩ : ∃ w7, w7 = w6.setCell ⟨p, 2, none⟩ (.slice (some ⟨g6, 0, none⟩) (m + 1) k6) := ⟨_, rfl⟩
  obtain ⟨F7, hF7⟩ : ∃ X, X = adF (nw F w.heap.size (0, 0)) w1.heap.size sb ob hd := ⟨_, rfl⟩
  obtain ⟨B7, hB7⟩ : ∃ X : Int → Nat, X = fun x => if x = hd then ob else B x := ⟨_, rfl⟩
  rw [← hw7] at hfin hff ⊢
  rw [← hF7] at hfin hag
  rw [← hB7] at hfin
  have hom : o ∈ L ++ [newOb hd oh n] := List.mem_append_left _ HO.out
  have hohd : oh ≠ hd := by rw [HOH.out]; exact HNE.out o HO.out
  have hB7o : B7 o.h = B oh := by rw [hB7, ← HOH.out]; exact if_neg hohd
  obtain ⟨sv, iv, hb7⟩ := hfin.ob o hom
  rw [hB7o] at hb7
  have c5 := hb7.c5
  have z5 := hb7.fz 5
  have hri := hb7.hi
  have hblt := hb7.lt
  have hnb : iv.ownBlock ≠ some (B oh) := fun e => by have := hb7.fi _ e; rw [hb7.fb] at this; cases this
  obtain ⟨ai, ci, rfl⟩ := own_form hri
  obtain ⟨M, hM⟩ : ∃ M, M = o.inners.length := ⟨_, rfl⟩
  have hMb : M ≤ 65536 := by rw [hM]; exact HIL.out
  rw [← hM] at c5 hri hnb
  obtain ⟨u0, hu, hu0, hu1, hu2⟩ := info_parts infoRU
  have hu' := hid hu
  have hu0' := hid hu0
  have hu1' := hid hu1
  have hu2' := hid hu2
  have HRI := hid hri
  have HFIN := hid hfin
  have HAG := hid hag
  have HFF := hid hff
  have HB7 := hid hb7
  have HM7 := hid hM
  have HOM := hid hom
  have HB7O := hid hB7o
  have HNB := hid hnb
  have HOHD := hid hohd
  clear hu hu0 hu1 hu2 hri hfin hag hff hb7 hM hom hnb hohd hfr keep hat hg6p hne6 hr1 hw7 hF7 hB7 hB7o hs1 hs3 hs4 hs5 cp6 zp6
  obtain ⟨bo, hbo⟩ : ∃ b, b = B oh := ⟨_, rfl⟩
  rw [← hbo] at c5 z5 hblt ⊢
  have HBO := hid hbo
  have hnb2 : (Value.slice ai M ci).ownBlock ≠ some bo := by rw [hbo]; exact HNB.out
  clear hbo
  go_wp2_with (at_builtin; refine wpList_append_lies _ (o := ⟨some 59, _, _, _, _, _⟩) rfl (.tmp 56) (.tmp 58) 43 rfl 0 TU u0 (.int .u64 0) 1 8 Try.underlying43 hu'.out hu0'.out hu1'.out hu2'.out rfl (by decide) (.slice ai M ci) M _ rfl (HRI.out.alloc _) ⟨w7.heap.size, 0, none⟩ 1 1 [.int .u64 hd] rfl rfl (one_news _ _ _ _ rfl) (by simp [Value.oneCell']) (by decide) (by unfold maxLen; omega) (by omega) (Nat.zero_le _) (w7.heap.size + 1) (by simp) ?_; intro g8 k8 w8 hown8 hgrow8 hat8 hlt8; have hb8 : w8.heap[bo]? = w7.heap[bo]? := (by rw [hgrow8.block bo (by simp; omega) (fun e => hnb2 e.symm)]; exact Below.heap_alloc _ _ _ hblt); have c58 : w8.cell? ⟨bo, 5, none⟩ = some (.slice ai M ci) := (World.cell?_of_block hb8).trans c5; have z58 : w8.frozen? ⟨bo, 5, none⟩ = false := (World.frozen?_of_block hb8).trans z5; have HO8 := hid hown8; have HG8 := hid hgrow8; have HA8 := hid hat8; have HB8 := hid hb8; clear hown8 hgrow8 hat8 hb8)
  go_ret2
  have hb7 := HB7.out
  have hoh := HOH.out
  have hoz : 1 ≤ o.h := by rw [← hoh]; exact HOZ.out
  have hbo := HBO.out
  have hM := HM7.out
  have hnd2 : Nd (L ++ [newOb hd oh n]) := by
    unfold Nd
    rw [List.map_append, List.nodup_append]
    refine ⟨HND.out, by simp, fun a ha b hb => ?_⟩
    simp [newOb] at hb
    subst hb
    obtain ⟨z, hz, rfl⟩ := List.mem_map.1 ha
    exact HNE.out z hz
  have hfr9 : Fr (fun q => q = bo ∨ (Value.slice ai M ci).ownBlock = some q) w7 (w8.setCell ⟨bo, 5, none⟩ (.slice (some ⟨g8, 0, none⟩) (M + 1) k8)) :=
    (((Fr.refl _ _).alloc _).grown HG8.out (fun q hq _ => .inr hq)).setCell _ _ (fun _ => .inl rfl)
  have lbo : F7 bo = (o.h, 0) := by rw [hbo]; exact hb7.fb
  have lown : ∀ q, (Value.slice ai M ci).ownBlock = some q → F7 q = (o.h, 2) := fun q hq => hb7.fi q (by rw [← hM]; exact hq)
  have hat : ∀ q, (Value.slice (some ⟨g8, 0, none⟩) (M + 1) k8).ownBlock = some q → (Value.slice ai M ci).ownBlock = some q ∨ w7.heap.size ≤ q := fun q hq => by
    simp only [Value.ownBlock, Option.some.injEq] at hq
    subst hq
    rcases HA8.out with e | e
    · exact .inl e
    · right; omega
  have hnew : (Value.slice (some ⟨g8, 0, none⟩) (M + 1) k8).ownBlock ≠ some bo := fun e => by
    rcases hat bo e with e2 | e2
    · exact hnb2 e2
    · omega
  have hone := HFIN.out.one (F' := nw F7 w7.heap.size (o.h, 2)) hnd2 HOM.out hoz (fun q => { q with inners := q.inners ++ [hd] }) (fun _ => rfl) hfr9 (fun q hq => by
    rcases hq with rfl | hq
    · exact ⟨0, lbo⟩
    · exact ⟨2, lown q hq⟩) (fun _ hk => nw_lt hk) ⟨sv, .slice (some ⟨g8, 0, none⟩) (M + 1) k8, by
      rw [HB7O.out, ← hbo]
      have h9 : w8.heap[bo]? = some (.cells #[.int .u64 o.h, .int .u64 o.outer, .int .u32 o.count, .int .i64 o.value, sv, .slice ai o.inners.length ci] 101 (0, 0)) := by rw [HB8.out, hbo]; exact hb7.hb
      refine ⟨by rw [heap_setCell_same _ _ _ _ _ _ h9]; rfl, hfr9.owns hb7.hs (fun q hq e => ?_), ?_, by rw [nw_lt hblt]; exact lbo, fun q hq => ?_, fun q hq => ?_⟩
      · have l1 := hb7.fs q hq
        rcases e with rfl | e
        · rw [lbo] at l1; cases l1
        · rw [lown q e] at l1; cases l1
      · have h10 := ownsRow_setCell_other (a := ⟨bo, 5, none⟩) HO8.out hnew (.slice (some ⟨g8, 0, none⟩) (M + 1) k8)
        simp only [List.length_append, List.length_singleton, List.map_append, List.map_cons, List.map_nil, ← hM]
        exact h10
      · rw [nw_lt (hb7.hs.lt q hq).2]; exact hb7.fs q hq
      · rcases hat q hq with e | e
        · rw [nw_lt (HRI.out.lt q e).2]; exact lown q e
        · exact nw_ge e⟩
  have hlist : (L ++ [newOb hd oh n]).map (fun q => if q.h = o.h then { q with inners := q.inners ++ [hd] } else q) = addIn L oh hd ++ [newOb hd oh n] := by
    unfold addIn
    rw [if_neg (by omega), List.map_append, hoh]
    congr 1
    have : ¬ (newOb hd o.h n).h = o.h := fun e => HOHD.out (by rw [hoh]; exact e.symm)
    simp only [List.map_cons, List.map_nil, if_neg this]
  rw [hlist] at hone
  refine ⟨rfl, _, _, B7, _, hone, fun q hq => ?_, FrF.trans HFF.out (F1 := F7) (hfr9.mono (fun q hq _ => ?_)) HAG.out⟩
  · rw [nw_lt (Nat.lt_of_lt_of_le hq HFF.out.size)]; exact HAG.out q hq
  · rcases hq with rfl | hq
    · exact lab_out lbo (by omega)
    · exact lab_out (lown q hq) (by omega)
end
/-- Make, whichever way it goes. -/
theorem RfMake_any (S : Nat → Prop) (w : World) (v : Value) (s : Hs) (slots outer : Int) (h : RfH S w v s) (hout : Hn outer) : Calls Try.prog 37 #[v, .int .i64 slots, .int .u64 outer] w fun e w' => Fr S w w' ∧
    ∃ s' h er, e = .returned (.tuple #[.int .u64 h, .int .i64 er]) ∧ MkR s slots outer s' h er ∧ RfH (exS S w w') w' v s' := by
  have hR := h
  obtain ⟨p, pa, Sa, F, B, lv, rfl, h1, h3, h4, h5⟩ := h
  have hl := h3.len
  have hA := h3.ok.aok
  have hz : ∀ o ∈ s.L, 1 ≤ o.h := fun o ho => (h3.inv.nz o ho).1
  by_cases hs : slots < 0 ∨ 8 < slots
  · refine (RMake_arg w _ slots outer hs).mono ?_
    rintro e w' ⟨rfl, rfl⟩
    exact ⟨Fr.refl _ _, s, 0, 1, rfl, .arg hs, hR.ex h5 (Nat.le_refl _)⟩
  · have hs' : 0 ≤ slots ∧ slots ≤ 8 := by omega
    obtain ⟨n, rfl⟩ := Int.eq_ofNat_of_zero_le hs'.1
    have hn8 : n ≤ 8 := by omega
    have fin : ∀ {i g : Nat} {A' : Ar} (hp : Put s.A 0 i g A') (h0 : outer ≠ 0 → ∃ o, fnd s.L outer = some o ∧ o.outer = 0) {e : Ending} {w' : World}, MkP w p pa F s.top (addIn s.L outer (hand i g) ++ [newOb (hand i g) outer n]) A' (hand i g) e w' →
        Fr S w w' ∧ ∃ s' h er, e = .returned (.tuple #[.int .u64 h, .int .i64 er]) ∧ MkR s (n : Int) outer s' h er ∧ RfH (exS S w w') w' (.pointer (some ⟨p, 0, none⟩)) s' := by
      rintro i g A' hp h0 e w' ⟨rfl, Sa', F', B', lv', k1, k2, k3⟩
      have hm : MkR s (n : Int) outer _ (hand i g) 0 := .ok hs' h0 hp
      exact ⟨Fr.mono k3 (fun k hk hl => h4 k hl hk), _, _, 0, rfl, hm, p, pa, Sa', F', B', lv', rfl, by simpa using k1, hm.hsi h3 hout, exs_lab h4 k2, exs_lt h5 k3.size⟩
    have new : ∀ {i g : Nat} {A' : Ar} (hp : Put s.A 0 i g A'), (∀ o ∈ s.L, o.h ≠ hand i g) ∧ 1 ≤ hand i g := fun {i g A'} hp => by
      refine ⟨fun o ho e => ?_, ?_⟩
      · have hq := h3.past o.h (h3.ok.sub o ho)
        rw [e] at hq
        exact hp.not_past hA hq
      · unfold hand; omega
    have full : Full s.A → (outer ≠ 0 → ∃ o, fnd s.L outer = some o ∧ o.outer = 0) → Calls Try.prog 37 #[.pointer (some ⟨p, 0, none⟩), .int .i64 n, .int .u64 outer] w fun e w' => Fr S w w' ∧
        ∃ s' h er, e = .returned (.tuple #[.int .u64 h, .int .i64 er]) ∧ MkR s (n : Int) outer s' h er ∧ RfH (exS S w w') w' (.pointer (some ⟨p, 0, none⟩)) s' := fun hF h0 => by
      refine (RMake_full h1 hl hs' hF h0).mono ?_
      rintro e w' ⟨rfl, rfl⟩
      exact ⟨Fr.refl _ _, s, 0, 3, rfl, .full hs' h0 hF, hR.ex h5 (Nat.le_refl _)⟩
    by_cases h0 : outer = 0
    · subst h0
      rcases put_or_full hA (0 : Int) with hF | ⟨i, g, A', hp⟩
      · exact full hF (fun e => absurd rfl e)
      · refine (RMake_whole h1 hz hl hn8 hp (new hp).1 (new hp).2).mono fun e w' hm => fin hp (fun e => absurd rfl e) ?_
        have : addIn s.L 0 (hand i g) = s.L := by unfold addIn; rw [if_pos rfl]
        rw [this]
        exact hm
    · cases hf : fnd s.L outer with
      | none =>
        refine (RMake_stale h1 hl hs' h0 hf).mono ?_
        rintro e w' ⟨rfl, rfl⟩
        exact ⟨Fr.refl _ _, s, 0, 2, rfl, .stale hs' h0 hf, hR.ex h5 (Nat.le_refl _)⟩
      | some o =>
        by_cases ho : o.outer = 0
        · rcases put_or_full hA (0 : Int) with hF | ⟨i, g, A', hp⟩
          · exact full hF (fun _ => ⟨o, hf, ho⟩)
          · obtain ⟨hm, rfl⟩ := fnd_some hf
            have hil : o.inners.length ≤ 65536 := by
              have := nodup_len (h3.inv.idp o hm) (m := s.L.map (·.h)) (fun x hx => by
                obtain ⟨z, hz2, e, _⟩ := h3.inv.inn o hm x hx
                exact List.mem_map.2 ⟨z, hz2, e⟩)
              rw [List.length_map] at this
              omega
            exact (RMake_in h1 h3.inv.nd hm ho hil hz hl hn8 hp (new hp).1 (new hp).2).mono fun e w' hq => fin hp (fun _ => ⟨o, hf, ho⟩) hq
        · refine (RMake_inner h1 hl hs' h0 hf ho).mono ?_
          rintro e w' ⟨rfl, rfl⟩
          exact ⟨Fr.refl _ _, s, 0, 1, rfl, .inner hs' h0 o hf ho, hR.ex h5 (Nat.le_refl _)⟩
end Go.Proofs.Ytmkajdfajcodjaa

namespace Go.Proofs.Ytmkajdfajcodjaa
open Go Go.ChangeShapes Go.WideShapes Go.ChangeAt Go.RowKit

section
variable {w w' : World} {p pa : Nat} {Sa : Nat → Prop} {A A' : Ar} {F : Nat → Lab} {B : Int → Nat} {top : Int} {L : HL} {lv : Value}
theorem RhW.setl (h : RhW w p pa Sa A F B top L lv) (hn : Nd L) {o : Ob} (ho : o ∈ L) (hz : 1 ≤ o.h) {sv iv : Value} (hb : RoC w F (B o.h) sv iv o) {sb k : Nat} (hsv : sv = .slice (some ⟨sb, 0, none⟩) o.links.length k) {j : Nat} (hj : j < o.links.length) (x : Lk) :
    RhW ((w.setCell ⟨sb, j * 2, none⟩ (.int .i64 x.kind)).setCell ⟨sb, j * 2 + 1, none⟩ (.int .u64 x.h)) p pa Sa A F B top (Go.Proofs.Ytmkajdfajcodjaa.setl L o.h j x) lv ∧ Fr (fun k => k = sb) w ((w.setCell ⟨sb, j * 2, none⟩ (.int .i64 x.kind)).setCell ⟨sb, j * 2 + 1, none⟩ (.int .u64 x.h)) := by
  subst hsv
  have hlab : F sb = (o.h, 1) := hb.fs sb rfl
  have hfr : Fr (fun k => k = sb) w ((w.setCell ⟨sb, j * 2, none⟩ (.int .i64 x.kind)).setCell ⟨sb, j * 2 + 1, none⟩ (.int .u64 x.h)) := by
    have h0 : Fr (fun k => k = sb) w (w.setCell ⟨sb, j * 2, none⟩ (.int .i64 x.kind)) := (Fr.refl (fun k => k = sb) w).setCell _ _ (fun _ => rfl)
    exact h0.setCell _ _ (fun _ => rfl)
  have hne : B o.h ≠ sb := fun e => by have := hb.fb; rw [e, hlab] at this; cases this
  refine ⟨h.one hn ho hz (fun q => { q with links := q.links.set j x }) (fun _ => rfl) hfr (fun k e => ⟨1, by rw [e]; exact hlab⟩) (fun _ _ => rfl) ⟨.slice (some ⟨sb, 0, none⟩) o.links.length k, iv, ?_⟩, hfr⟩
  refine ⟨by rw [hfr.block _ hb.lt hne]; exact hb.hb, ?_, hfr.owns hb.hi (fun k hk e => ?_), hb.fb, hb.fs, hb.fi⟩
  · have h1 := (hb.hs.stored (j * 2) (.int .i64 x.kind)).1
    have h2 := (h1.stored (j * 2 + 1) (.int .u64 x.h)).1
    simp only [List.length_set]
    rw [← lkv_set o.links j x hj]
    exact h2
  · subst e
    have := hb.fi _ hk
    rw [hlab] at this
    cases this
theorem RPut_none (h : RhW w p pa Sa A F B top L lv) (hl : L.length ≤ 65536) {hd slot : Int} {x : Lk} (e : fnd L hd = none) :
    Calls Try.prog 41 #[.pointer (some ⟨p, 0, none⟩), .int .u64 hd, .int .i64 slot, .agg #[.int .i64 x.kind, .int .u64 x.h]] w fun e w' => e = .returned (.tuple #[.slice none 0 0, .slice none 0 0, .int .i64 2]) ∧ Below w.heap.size w w' := by
  obtain ⟨w1, hw1⟩ : ∃ w1, w1 = w.alloc (.cells #[.int .i64 x.kind, .int .u64 x.h] TLk) := ⟨_, rfl⟩
  have hb1 : Below w.heap.size w w1 := by rw [hw1]; exact (Below.refl _ _).alloc (Nat.le_refl _) _
  have h1 : RhW w1 p pa Sa A F B top L lv := h.fr (fp := fun _ => False) (Fr.of_below hb1) (fun e => e) (fun _ _ e => e) (fun _ _ e => e) (fun _ _ _ _ _ e => e) (fun _ _ => rfl)
  have HF := hid (RFind_none h1 (by omega) e)
  have HW1 := hid hw1
  have HB1 := hid hb1
  clear hw1 hb1 h1 h hl e
  go_enter Try.func41, Try.ntmps41
  go_upto_region 1 with fail
  rw [← HW1.out]
  go_wp2_with (go_at_call 43; refine HF.out.mono ?_; rintro e w2 ⟨rfl, rfl⟩)
  go_ret3
  exact ⟨rfl, HB1.out⟩
set_option maxRecDepth 100000 in
theorem RPut_arg (h : RhW w p pa Sa A F B top L lv) (hl : L.length ≤ 65536) {hd slot : Int} {x : Lk} {o : Ob} (e : fnd L hd = some o) (hb : slot < 0 ∨ (o.links.length : Int) ≤ slot ∨ x.kind < 0 ∨ 2 < x.kind ∨ (x.kind = 0 ∧ x.h ≠ 0)) :
    Calls Try.prog 41 #[.pointer (some ⟨p, 0, none⟩), .int .u64 hd, .int .i64 slot, .agg #[.int .i64 x.kind, .int .u64 x.h]] w fun e w' => e = .returned (.tuple #[.slice none 0 0, .slice none 0 0, .int .i64 1]) ∧ Below w.heap.size w w' := by
  obtain ⟨w1, hw1⟩ : ∃ w1, w1 = w.alloc (.cells #[.int .i64 x.kind, .int .u64 x.h] TLk) := ⟨_, rfl⟩
  have hb1 : Below w.heap.size w w1 := by rw [hw1]; exact (Below.refl _ _).alloc (Nat.le_refl _) _
  have h1 : RhW w1 p pa Sa A F B top L lv := h.fr (fp := fun _ => False) (Fr.of_below hb1) (fun e => e) (fun _ _ e => e) (fun _ _ e => e) (fun _ _ _ _ _ e => e) (fun _ _ => rfl)
  have HF := hid (RFind_some h1 (by omega) e)
  obtain ⟨hm, rfl⟩ := fnd_some e
  obtain ⟨sv, iv, hob⟩ := h1.ob o hm
  have c4 := hob.c4
  obtain ⟨sa, sc, rfl⟩ := own_form hob.hs
  have b0 : w1.cell? ⟨w.heap.size, 0, none⟩ = some (.int .i64 x.kind) := by rw [hw1, cell_of_row _ _ 0 _ _ _ (heap_alloc_new _ _)]; rfl
  have b1 : w1.cell? ⟨w.heap.size, 1, none⟩ = some (.int .u64 x.h) := by rw [hw1, cell_of_row _ _ 1 _ _ _ (heap_alloc_new _ _)]; rfl
  have HW1 := hid hw1
  have HB1 := hid hb1
  obtain ⟨xk, xh⟩ := x
  simp only at hb b0 b1 HW1
  generalize o.links.length = nl at *
  generalize o.h = oh at *
  clear hw1 hb1 h1 h hl e hob hm
  by_cases q1 : slot < 0
  · have d1 : decide (slot < 0) = true := by simpa using q1
    clear hb q1
    go_enter Try.func41, Try.ntmps41
    go_upto_region 1 with fail
    rw [← HW1.out]
    go_wp2_with (go_at_call 43; refine HF.out.mono ?_; rintro e w2 ⟨rfl, rfl⟩)
    go_ret3
    exact ⟨rfl, HB1.out⟩
  · have d1 : decide (slot < 0) = false := by simpa using q1
    by_cases q2 : (nl : Int) ≤ slot
    · have d2 : decide ((nl : Int) ≤ slot) = true := by simpa using q2
      clear hb q1 q2
      go_enter Try.func41, Try.ntmps41
      go_upto_region 1 with fail
      rw [← HW1.out]
      go_wp2_with (go_at_call 43; refine HF.out.mono ?_; rintro e w2 ⟨rfl, rfl⟩)
      go_ret3
      exact ⟨rfl, HB1.out⟩
    · have d2 : decide ((nl : Int) ≤ slot) = false := by simpa using q2
      by_cases q3 : xk < 0
      · have d3 : decide (xk < 0) = true := by simpa using q3
        clear hb q1 q2 q3
        go_enter Try.func41, Try.ntmps41
        go_upto_region 1 with fail
        rw [← HW1.out]
        go_wp2_with (go_at_call 43; refine HF.out.mono ?_; rintro e w2 ⟨rfl, rfl⟩)
        go_ret3
        exact ⟨rfl, HB1.out⟩
      · have d3 : decide (xk < 0) = false := by simpa using q3
        by_cases q4 : 2 < xk
        · have d4 : decide (2 < xk) = true := by simpa using q4
          clear hb q1 q2 q3 q4
          go_enter Try.func41, Try.ntmps41
          go_upto_region 1 with fail
          rw [← HW1.out]
          go_wp2_with (go_at_call 43; refine HF.out.mono ?_; rintro e w2 ⟨rfl, rfl⟩)
          go_ret3
          exact ⟨rfl, HB1.out⟩
        · have hkh : xk = 0 ∧ xh ≠ 0 := by omega
          obtain ⟨rfl, hx⟩ := hkh
          have d5 : (xh != 0) = true := by simpa using hx
          clear hb q1 q2 q3 q4 hx d3
          go_enter Try.func41, Try.ntmps41
          go_upto_region 1 with fail
          rw [← HW1.out]
          go_wp2_with (go_at_call 43; refine HF.out.mono ?_; rintro e w2 ⟨rfl, rfl⟩)
          go_ret3
          exact ⟨rfl, HB1.out⟩
end
end Go.Proofs.Ytmkajdfajcodjaa
