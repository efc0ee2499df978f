/-
  A heap: Down.
-/
import Derived.Test.YtmkajdfajcodjaaHqS
namespace Go.Proofs.Ytmkajdfajcodjaa
open Go Go.ChangeShapes Go.WideShapes Go.ChangeAt Go.RowKit

theorem HpW.len {w : World} {p pa : Nat} {Sa : Nat → Prop} {AA : Ar} {F : Nat → Lab} {B : Int → Nat} {top : Int} {L : HL} (h : HpW w p pa Sa AA F B top L) (hn : Nd L) : L.length ≤ 65536 := by
  have hsub : ∀ y ∈ L.map (·.h), y ∈ (AA.L.zipIdx.map fun q => hand q.2 q.1.g) := fun y hy => by
    obtain ⟨o, ho, rfl⟩ := List.mem_map.1 hy
    obtain ⟨j, sp, k1, k2, k3, _⟩ := h.pl o ho
    exact List.mem_map.2 ⟨(sp, j), List.mem_zipIdx_iff_getElem?.2 k1, by rw [k3]⟩
  have := nodup_len hn hsub
  rw [List.length_map, List.length_map, List.length_zipIdx] at this
  have h6 := h.ar.ok.len
  have h7 := h.ar.ok.m2
  omega
/-- A sweep that is just made. -/
theorem SwW.new {w w1 : World} {p : Nat} {F : Nat → Lab} (hq : w1.heap[w.heap.size]? = some (.cells #[.pointer (some ⟨p, 0, none⟩), .slice none 0 0, .slice none 0 0, .slice none 0 0] 118 (0, 0))) :
    SwW w1 w.heap.size p (nw F w.heap.size (-2, 0)) (.slice none 0 0) (.slice none 0 0) (.slice none 0 0) [] [] [] :=
  ⟨hq, .inl ⟨rfl, rfl⟩, World.ownsRow_nil _ _ _ _, World.ownsRow_nil _ _ _ _, nw_ge (Nat.le_refl _), fun k hk => by simp [Value.ownBlock] at hk, fun k hk => by simp [Value.ownBlock] at hk, fun k hk => by simp [Value.ownBlock] at hk⟩
section
variable {w : World} {p pa : Nat} {Sa : Nat → Prop} {AA : Ar} {F : Nat → Lab} {B : Int → Nat} {top : Int} {L : HL}
/-- A row is the heap's own. -/
def OwnL (w : World) (F : Nat → Lab) (v : Value) : Prop := ∀ k, v.ownBlock = some k → k < w.heap.size ∧ F k ≠ outL
theorem OwnL.exs {S : Nat → Prop} {w w' : World} {F F1 : Nat → Lab} {v : Value} (h : OwnL w' F1 v) (h4 : ∀ k, k < w.heap.size → F k ≠ outL → S k) (h3 : ∀ k, k < w.heap.size → F1 k = F k) : ∀ k, v.ownBlock = some k → exS S w w' k := fun k hk => exs_lab h4 h3 k (h k hk).1 (h k hk).2
theorem SwW.ownL {w : World} {q p : Nat} {F : Nat → Lab} {wv gv fv : Value} {ws gs fs : List Int} (h : SwW w q p F wv gv fv ws gs fs) : OwnL w F gv ∧ OwnL w F fv :=
  ⟨fun k hk => ⟨(h.hg.lt k hk).2, by rw [h.lg k hk]; simp [outL]⟩, fun k hk => ⟨(h.hf.lt k hk).2, by rw [h.lf k hk]; simp [outL]⟩⟩
def EndPost (w : World) (p pa : Nat) (AA : Ar) (F : Nat → Lab) (B : Int → Nat) (top : Int) (L1 : HL) (l : Lk) (e : Ending) (w' : World) : Prop :=
  ∃ vg vf Lf g f Sa1 AA1 F1, e = .returned (.tuple #[vg, vf, .int .i64 0]) ∧ Told TU u64v w' vg g ∧ Told TU u64v w' vf ((let1 L1 l).2.2 ++ f) ∧ Goes (let1 L1 l).1 (let1 L1 l).2.1 Lf g f ∧ HpW w' p pa Sa1 AA1 F1 B top Lf ∧ DrR (er AA) g (er AA1) ∧ (∀ k, k < w.heap.size → F1 k = F k) ∧ FrF F w w' ∧ OwnL w' F1 vg ∧ OwnL w' F1 vf
set_option maxRecDepth 100000 in
theorem Down_some (h : HpW w p pa Sa AA F B top L) (hi : HIn top L) (htop : top ≤ 4294967295) {o : Ob} (ho : o ∈ L) :
    Calls Try.prog 25 #[.pointer (some ⟨p, 0, none⟩), .int .u64 o.h] w (EndPost w p pa AA F B top L ⟨1, o.h⟩) := by
  have hbd := h.bd ho
  have HFI := hid (find_some h ho)
  obtain ⟨w1, hw1⟩ : ∃ w1, w1 = w.alloc (.cells #[.pointer (some ⟨p, 0, none⟩), .slice none 0 0, .slice none 0 0, .slice none 0 0] 118) := ⟨_, rfl⟩
  have hb1 : Below w.heap.size w w1 := by rw [hw1]; exact (Below.refl _ _).alloc (Nat.le_refl _) _
  have hs1 : SwW w1 w.heap.size p (nw F w.heap.size (-2, 0)) (.slice none 0 0) (.slice none 0 0) (.slice none 0 0) [] [] [] := SwW.new (by rw [hw1]; exact heap_alloc_new _ _)
  have h1 : HpW w1 p pa Sa AA (nw F w.heap.size (-2, 0)) B top L := h.fr (fp := fun _ => False) (Fr.of_below hb1) (fun e => e) (fun _ _ e => e) (fun _ _ _ _ _ e => e) (fun _ hk => nw_lt hk)
  have hlet := letGo_any h1 hs1 hi htop ⟨1, o.h⟩ ⟨by simp; omega, hbd.2⟩ (by simp [Nm]) (by simp) (by simp)
  have HW1 := hid hw1
  have HLET := hid hlet
  have HI := hid hi
  have HTOP := hid htop
  have HLEN := hid (h.len hi.nd)
  have HB1 := hid hb1
  generalize o.h = oh at *
  clear hw1 hlet hb1 hs1 h1 hi htop h ho
  obtain ⟨q, hq⟩ : ∃ q, q = w.heap.size := ⟨_, rfl⟩
  rw [← hq] at HLET
  have HQ := hid hq
  clear hq
  go_enter Try.func25, Try.ntmps25
  go_wp2_with fail
  refine HFI.out.mono ?_
  rintro e w0 ⟨rfl, rfl⟩
  go_upto_region 4 with fail
  rw [← HW1.out, ← HQ.out]
  go_wp2_with fail
  refine HLET.out.mono ?_
  rintro e w2 ⟨⟨v, rfl⟩, F2, wv2, fv2, k1, k2, k3, k4⟩
  have hi2 := HI.out.let1 ⟨1, oh⟩
  have hwq := (WQ.nil L).let1 HI.out ⟨1, oh⟩
  have hll := len_let1 L ⟨1, oh⟩
  have htl := totl_let1 L ⟨1, oh⟩
  have hto := totl_le HI.out
  have hle := HLEN.out
  rw [List.nil_append] at hwq k2
  have hrun := run_any k1 k2 hi2.1 hwq HTOP.out (by rw [hll.1]; simp; omega) (by rw [htl]; simp; omega)
  have HRUN := hid hrun
  have K3 := hid k3
  have K4 := hid k4
  clear hrun k1 k2 k3 k4 hi2 hwq hll htl hto hle
  go_wp2_with fail
  refine HRUN.out.mono ?_
  rintro e w3 ⟨⟨v2, rfl⟩, Lf, g, f, Sa3, AA3, F3, wv3, gv3, fv3, m1, m2, m3, m4, m5, m6⟩
  have c2 := m3.c2
  have c3 := m3.c3
  have M1 := hid m1
  have M2 := hid m2
  have M3 := hid m3
  have M4 := hid m4
  have M5 := hid m5
  have M6 := hid m6
  clear m1 m2 m3 m4 m5 m6
  go_wp2
  go_quiet (fail)
  go_wp2
  have hq := HQ.out
  have hsz := HB1.out.size
  have h4z := K4.out.size
  have hfr : ∀ nn, FrF F w (w3.drewN nn) := fun nn => Fr.drewN (FrF.trans (FrF.trans (F1 := nw F q (-2, 0)) (Fr.of_below HB1.out) K4.out (fun k hk => nw_lt (by omega))) M6.out (fun k hk => by rw [K3.out k (by omega)]; exact nw_lt (by omega))) nn
  have HFR := hid hfr
  clear hfr
  go_ret3
  have t1 : Told TU u64v w3 gv3 g := (⟨by simpa using M3.out.hg, fun _ _ e => e⟩ : RowS TU u64v (fun _ => False) 0 w3 gv3 g).told
  have t2 : Told TU u64v w3 fv3 ((let1 L ⟨1, oh⟩).2.2 ++ f) := (⟨by simpa using M3.out.hf, fun _ _ e => e⟩ : RowS TU u64v (fun _ => False) 0 w3 fv3 _).told
  refine ⟨gv3, fv3, Lf, g, f, Sa3, AA3, F3, rfl, t1.below (below_drewN (Below.refl _ _) _), t2.below (below_drewN (Below.refl _ _) _), M1.out, M2.out.drewN _, M4.out, fun k hk => ?_, HFR.out _, M3.out.ownL.1, M3.out.ownL.2⟩
  rw [M5.out k (by omega), K3.out k (by omega)]
  exact nw_lt (by omega)
theorem Down_none (h : HpW w p pa Sa AA F B top L) {hd : Int} (e : fnd L hd = none) (h0 : Hn hd) :
    Calls Try.prog 25 #[.pointer (some ⟨p, 0, none⟩), .int .u64 hd] w fun e w' => e = .returned (.tuple #[.slice none 0 0, .slice none 0 0, .int .i64 2]) ∧ w = w' := by
  have HF := hid (find_none h (fun o ho => fnd_none.1 e o ho) h0)
  clear h h0 e
  go_enter Try.func25, Try.ntmps25
  go_wp2_with (refine HF.out.mono ?_; rintro e w1 ⟨rfl, rfl⟩)
  go_ret3
  exact ⟨rfl, rfl⟩
end
theorem told_nil (w : World) : Told TU u64v w (.slice none 0 0) [] := (RowS.nil TU u64v (fun _ => False) 0 w).told
theorem HDown_in (S : Nat → Prop) (w : World) (v : Value) (s : Hs) (hd : Int) (h : RpH S w v s) (h0 : Hn hd) : Calls Try.prog 25 #[v, .int .u64 hd] w fun e w' => Fr S w w' ∧
    ∃ s' g f er vg vf, e = .returned (.tuple #[vg, vf, .int .i64 er]) ∧ Told TU u64v w' vg g ∧ Told TU u64v w' vf f ∧ DnR s hd s' g f er ∧ RpH (exS S w w') w' v s' ∧ (∀ k, vg.ownBlock = some k → exS S w w' k) ∧ (∀ k, vf.ownBlock = some k → exS S w w' k) := by
  obtain ⟨p, pa, Sa, AA, F, B, rfl, h1, h2, h3, h4, h5⟩ := h
  have hR : RpH S w (.pointer (some ⟨p, 0, none⟩)) s := ⟨p, pa, Sa, AA, F, B, rfl, h1, h2, h3, h4, h5⟩
  cases hf : fnd s.L hd with
  | none =>
    refine (Down_none h1 hf h0).mono ?_
    rintro e w' ⟨rfl, rfl⟩
    exact ⟨Fr.refl _ _, s, [], [], 2, _, _, rfl, told_nil _, told_nil _, .stale hf, hR.ex h5 (Nat.le_refl _), by simp [Value.ownBlock], by simp [Value.ownBlock]⟩
  | some o =>
    obtain ⟨ho, he⟩ := fnd_some hf
    have hdw := Down_some h1 h3.inv h3.t2 ho
    rw [he] at hdw
    refine hdw.mono ?_
    rintro e w' ⟨vg, vf, Lf, g, f, Sa1, AA1, F1, rfl, t1, t2, hg, k1, k2, k3, k4, k5, k6⟩
    have hdn : DnR s hd _ g ((let1 s.L ⟨1, hd⟩).2.2 ++ f) 0 := .ok o hf (L' := Lf) (A' := er AA1) ⟨f, by rw [letg_one]; exact hg, by rw [letg_one]⟩ (by rw [h2]; exact k2)
    refine ⟨Fr.mono k4 (fun k hk hl => h4 k hl hk), _, g, _, 0, vg, vf, rfl, t1, t2, hdn, ⟨p, pa, Sa1, AA1, F1, B, rfl, k1, rfl, hdn.hsi h3, exs_lab h4 k3, exs_lt h5 k4.size⟩, k5.exs h4 k3, k6.exs h4 k3⟩
theorem HDown_any (S : Nat → Prop) (w : World) (v : Value) (s : Hs) (hd : Int) (h : RpH S w v s) (h0 : Hn hd) : Calls Try.prog 25 #[v, .int .u64 hd] w fun e w' => Fr S w w' ∧
    ∃ s' g f er vg vf, e = .returned (.tuple #[vg, vf, .int .i64 er]) ∧ Told TU u64v w' vg g ∧ Told TU u64v w' vf f ∧ DnR s hd s' g f er ∧ RpH (exS S w w') w' v s' :=
  (HDown_in S w v s hd h h0).mono fun _ _ ⟨h1, s', g, f, er, vg, vf, h2, h3, h4, h5, h6, _⟩ => ⟨h1, s', g, f, er, vg, vf, h2, h3, h4, h5, h6⟩
end Go.Proofs.Ytmkajdfajcodjaa
