/- HqR HqJ HqS in one -/
import Derived.Test.YtceokibalphgpaaHqK
import Derived.Test.YtceokibalphgpaaMixR
import Derived.Sort.CutIn
import Derived.Deep.LoopGhost
import Derived.Deep.Cut
namespace Go.Proofs.Ytceokibalphgpaa
open Go

theorem WQ.nil (L : HL) : WQ L [] := ⟨by simp, by simp⟩
theorem WQ.ww {L : HL} {ws : List Int} (h : WQ L ws) (hn : Nd L) : WW L ws := fun x hx o ho e => by
  obtain ⟨p, hp, h1, h2, _⟩ := h.is x hx
  rw [ob_eq hn hp ho (e.trans h1.symm)]
  exact h2
theorem WQ.len {L : HL} {ws : List Int} (h : WQ L ws) : ws.length ≤ L.length := by
  have := nodup_len (m := L.map (·.h)) h.nd fun x hx => by
    obtain ⟨o, ho, e, _⟩ := h.is x hx
    exact List.mem_map.2 ⟨o, ho, e⟩
  simpa using this
theorem WQ.awa {top : Int} {L : HL} {x : Int} {ws : List Int} (h : WQ L (x :: ws)) (hi : HIn top L) : WQ (awa L x).1 ws := by
  obtain ⟨w, hw, h1, h2, _⟩ := h.is x (by simp)
  have hf : fnd L x = some w := by rw [← h1]; exact fnd_mem hi.nd hw
  have hnd := List.nodup_cons.1 h.nd
  rw [awa_some hf]
  refine ⟨hnd.2, fun y hy => ?_⟩
  obtain ⟨o, ho, e1, e2, e3⟩ := h.is y (List.mem_cons_of_mem _ hy)
  refine ⟨o, List.mem_filter.2 ⟨ho, ?_⟩, e1, e2, e3⟩
  have n1 : o.h ≠ x := fun e => hnd.1 (by rw [← e, e1]; exact hy)
  have n2 : o.h ∉ w.inners := fun hm => by
    obtain ⟨z, hz, f1, f2⟩ := hi.inn w hw _ hm
    rw [ob_eq hi.nd hz ho f1.symm, f2] at e2
    have := hi.nz w hw
    omega
  simp [n1, n2]
theorem WQ.let1 {top : Int} {L : HL} {ws : List Int} (h : WQ L ws) (hi : HIn top L) (l : Lk) : WQ (let1 L l).1 (ws ++ (let1 L l).2.1) := by
  by_cases k1 : l.kind = 1
  · obtain ⟨lk, lh⟩ := l
    simp only at k1
    subst k1
    cases hw : whl L lh with
    | none => rw [let1_none hw]; simpa using h
    | some x =>
      obtain ⟨hx, hx0⟩ := whl_some hi hw
      rw [let1_some hw]
      split
      · simpa using h
      · rename_i hc
        have hni : x.h ∉ ws := fun hm => by
          obtain ⟨o, ho, e1, _, e3⟩ := h.is _ hm
          rw [ob_eq hi.nd hx ho e1] at e3
          exact hc e3
        have hold : ∀ y ∈ ws, ∃ o ∈ setc L x.h (x.count - 1), o.h = y ∧ o.outer = 0 ∧ o.count = 0 := fun y hy => by
          obtain ⟨o, ho, e1, e2, e3⟩ := h.is y hy
          have : o.h ≠ x.h := fun e => hni (by rw [← e, e1]; exact hy)
          exact ⟨o, mem_setc.2 ⟨o, ho, by rw [if_neg this]⟩, e1, e2, e3⟩
        by_cases h1 : x.count = 1
        · simp only [h1, if_true]
          refine ⟨?_, fun y hy => ?_⟩
          · rw [List.nodup_append]
            exact ⟨h.nd, by simp, fun a ha b hb e => by simp at hb; subst hb; subst e; exact hni ha⟩
          · rcases List.mem_append.1 hy with hy | hy
            · have := hold y hy
              rw [h1] at this
              exact this
            · simp at hy
              subst hy
              exact ⟨_, mem_setc.2 ⟨x, hx, rfl⟩, by simp, by simp [hx0], by simp⟩
        · simp only [h1, if_false, List.append_nil]
          exact ⟨h.nd, hold⟩
  · by_cases k2 : l.kind = 2
    · obtain ⟨lk, lh⟩ := l
      simp only at k2
      subst k2
      rw [let1_for]
      simpa using h
    · rw [let1_oth k1 k2]; simpa using h
theorem letg_app : ∀ (L : HL) (P : List Lk) (l : Lk), letg L (P ++ [l]) = ((let1 (letg L P).1 l).1, (letg L P).2.1 ++ (let1 (letg L P).1 l).2.1, (letg L P).2.2 ++ (let1 (letg L P).1 l).2.2)
  | L, [], l => by simp [letg]
  | L, a :: P, l => by
    rw [List.cons_append]
    unfold letg
    rw [letg_app (let1 L a).1 P l]
    simp
def totl (L : HL) : Nat := (L.map fun o => o.links.length).sum
theorem totl_map {L : HL} (f : Ob → Ob) (hf : ∀ o, (f o).links.length = o.links.length) : totl (L.map f) = totl L := by
  unfold totl
  rw [List.map_map]
  congr 1
  exact List.map_congr_left fun o _ => hf o
theorem totl_let1 (L : HL) (l : Lk) : totl (let1 L l).1 = totl L := by
  unfold let1
  split
  · rfl
  · split
    · split
      · rfl
      · split
        · rfl
        · exact totl_map _ (fun o => by split <;> rfl)
    · rfl
theorem totl_letg : ∀ (P : List Lk) (L : HL), totl (letg L P).1 = totl L
  | [], _ => rfl
  | l :: r, L => by
    unfold letg
    rw [totl_letg r]
    exact totl_let1 L l
theorem len_let1 (L : HL) (l : Lk) : (let1 L l).1.length = L.length ∧ (let1 L l).2.2.length ≤ 1 := by
  unfold let1
  split
  · exact ⟨rfl, by simp⟩
  · split
    · split
      · exact ⟨rfl, by simp⟩
      · split
        · exact ⟨rfl, by simp⟩
        · exact ⟨by simp [setc], by simp⟩
    · exact ⟨rfl, by simp⟩
theorem len_letg : ∀ (P : List Lk) (L : HL), (letg L P).1.length = L.length ∧ (letg L P).2.2.length ≤ P.length
  | [], _ => ⟨rfl, by simp [letg]⟩
  | l :: r, L => by
    have h1 := len_letg r (let1 L l).1
    have h2 := len_let1 L l
    unfold letg
    refine ⟨h1.1.trans h2.1, ?_⟩
    simp only [List.length_append, List.length_cons]
    omega
theorem totl_drop {L : HL} (hn : Nd L) {o : Ob} (h : o ∈ L) : totl (L.filter fun x => !(x.h == o.h)) + o.links.length = totl L ∧ (L.filter fun x => !(x.h == o.h)).length + 1 = L.length := by
  induction L with
  | nil => cases h
  | cons a L ih =>
    have hn' : (a.h :: L.map (·.h)).Nodup := hn
    rw [List.nodup_cons] at hn'
    rcases List.mem_cons.1 h with rfl | h
    · have he : L.filter (fun x => !(x.h == o.h)) = L := List.filter_eq_self.2 fun x hx => by
        have : x.h ≠ o.h := fun e => hn'.1 (e ▸ List.mem_map.2 ⟨x, hx, rfl⟩)
        simpa using this
      rw [List.filter_cons_of_neg (by simp), he]
      simp [totl, Nat.add_comm]
    · have : a.h ≠ o.h := fun e => hn'.1 (e ▸ List.mem_map.2 ⟨o, h, rfl⟩)
      rw [List.filter_cons_of_pos (by simpa using this)]
      have := ih hn'.2 h
      simp only [totl, List.map_cons, List.sum_cons, List.length_cons] at this ⊢
      omega
theorem totl_rows : ∀ {L : HL}, Nd L → ∀ {hs : List Int}, hs.Nodup → (∀ h ∈ hs, ∃ o ∈ L, o.h = h) → totl (L.filter fun x => !(hs.contains x.h)) + (hs.flatMap (linksOf L)).length = totl L ∧ (L.filter fun x => !(hs.contains x.h)).length + hs.length = L.length := by
  intro L hn hs
  induction hs generalizing L with
  | nil => intro _ _; rw [List.filter_eq_self.2 (by simp)]; simp
  | cons a r ih =>
    intro hnd hex
    rw [List.nodup_cons] at hnd
    obtain ⟨o, ho, e⟩ := hex a (by simp)
    obtain ⟨d1, d2⟩ := totl_drop hn ho
    rw [e] at d1 d2
    have hn1 : Nd (L.filter fun x => !(x.h == a)) := hn.sublist (List.Sublist.map _ (List.filter_sublist ..))
    obtain ⟨i1, i2⟩ := ih hn1 hnd.2 fun h hh => by
      obtain ⟨p, hp, e2⟩ := hex h (List.mem_cons_of_mem _ hh)
      have : p.h ≠ a := fun k => hnd.1 (by rw [← k, e2]; exact hh)
      exact ⟨p, List.mem_filter.2 ⟨hp, by simpa using this⟩, e2⟩
    have ef : (L.filter fun x => !(x.h == a)).filter (fun x => !(r.contains x.h)) = L.filter fun x => !((a :: r).contains x.h) := by
      rw [List.filter_filter]
      refine List.filter_congr fun z _ => ?_
      rw [List.contains_cons]
      cases r.contains z.h <;> cases (z.h == a) <;> rfl
    rw [ef] at i1 i2
    have el : r.flatMap (linksOf (L.filter fun x => !(x.h == a))) = r.flatMap (linksOf L) := by
      have : ∀ y ∈ r, linksOf (L.filter fun x => !(x.h == a)) y = linksOf L y := fun y hy => by
        have hya : y ≠ a := fun k => hnd.1 (k ▸ hy)
        obtain ⟨p, hp, e2⟩ := hex y (List.mem_cons_of_mem _ hy)
        have h1 := fnd_mem hn hp
        have h2 := fnd_mem hn1 (List.mem_filter.2 ⟨hp, by rw [e2]; simpa using hya⟩ : p ∈ L.filter fun x => !(x.h == a))
        rw [e2] at h1 h2
        unfold linksOf
        rw [h1, h2]
      clear i1 i2 ih ef
      induction r with
      | nil => rfl
      | cons b r ihr =>
        rw [List.flatMap_cons, List.flatMap_cons, this b (by simp), ihr (by
          rw [List.nodup_cons] at hnd
          exact ⟨fun hm => hnd.1 (List.mem_cons_of_mem _ hm), hnd.2.2⟩) (fun h hh => hex h (by
            rcases List.mem_cons.1 hh with rfl | hh
            · simp
            · exact List.mem_cons_of_mem _ (List.mem_cons_of_mem _ hh))) (fun y hy => this y (List.mem_cons_of_mem _ hy))]
    rw [el] at i1
    have ea : linksOf L a = o.links := by
      have := fnd_mem hn ho
      rw [e] at this
      unfold linksOf
      rw [this]
    rw [List.flatMap_cons, List.length_append, List.length_cons, ea]
    omega
/-- What goes takes its links with it. -/
theorem awa_tot {top : Int} {L : HL} (hi : HIn top L) {x : Ob} (hx : x ∈ L) : totl (awa L x.h).1 + (awa L x.h).2.1.length = totl L ∧ (awa L x.h).1.length + 1 + x.inners.length = L.length := by
  have hf := fnd_mem hi.nd hx
  obtain ⟨h1, h2⟩ := totl_rows hi.nd (hs := x.h :: x.inners) (List.nodup_cons.2 ⟨hi.self hx, hi.idp x hx⟩) fun h hh => by
    rcases List.mem_cons.1 hh with rfl | hh
    · exact ⟨x, hx, rfl⟩
    · obtain ⟨o, ho, e, _⟩ := hi.inn x hx h hh
      exact ⟨o, ho, e⟩
  have e2 : (awa L x.h).1 = L.filter fun o => !((x.h :: x.inners).contains o.h) := by
    rw [awa_some hf]
    refine List.filter_congr fun y _ => ?_
    rw [List.contains_cons]
  rw [held_all hf, e2]
  rw [List.length_cons] at h2
  omega
theorem totl_le {top : Int} {L : HL} (hi : HIn top L) : totl L ≤ L.length * 8 := by
  have : ∀ o ∈ L, o.links.length ≤ 8 := fun o ho => (hi.lnk o ho).1
  clear hi
  induction L with
  | nil => simp [totl]
  | cons a L ih =>
    have h1 := this a (by simp)
    have h2 := ih fun o ho => this o (List.mem_cons_of_mem _ ho)
    simp only [totl, List.map_cons, List.sum_cons, List.length_cons] at h2 ⊢
    omega
end Go.Proofs.Ytceokibalphgpaa

namespace Go.Proofs.Ytceokibalphgpaa
open Go Go.ChangeShapes Go.WideShapes Go.ChangeAt Go.RowKit Go.Shelf
attribute [local go_sem] Oper.semAt_some

def hds (pre : List (Int × Nat)) : List Int := pre.map (·.1)
/-- Between two rounds. -/
structure DrI (w : World) (q p pa : Nat) (AA : Ar) (F : Nat → Lab) (B : Int → Nat) (top : Int) (L : HL) (wv fv : Value) (ws gs fs : List Int) (x : Ob) (sv iv : Value) (c : Int) (g : List Int) (W : World) : Prop where
  ex : ∃ Sa1 AA1 F1 gv hv, HpW W p pa Sa1 AA1 F1 B top (L.filter fun o => !(g.contains o.h)) ∧ (∀ k o, Sa1 k → W.heap[k]? = some o → o.isCells = true) ∧ SwW W q p F1 wv gv fv ws (gs ++ g) fs ∧ ObC W F1 (B x.h) sv iv c x ∧ DrR (er AA) g (er AA1) ∧
    (∀ k, k < w.heap.size → F1 k = F k) ∧ F1 w.heap.size = outL ∧ F1 (w.heap.size + 1) = outL ∧ F1 (w.heap.size + 2) = outL ∧ F1 (w.heap.size + 3) = outL ∧ Boxed W (w.heap.size + 1) 77 hv ∧
    W.ownsRow (w.heap.size + 4) 67 2 hv (g.flatMap (linksOf L)).length (lkv (g.flatMap (linksOf L))) ∧ ∀ k, hv.ownBlock = some k → F1 k = outL
  bs : Boxed W w.heap.size 143 (.pointer (some ⟨q, 0, none⟩))
  b1 : Boxed W (w.heap.size + 2) 24 (.pointer (some ⟨p, 0, none⟩))
  b2 : Boxed W (w.heap.size + 3) 34 (.int .u64 x.h)
  fr : FrF F w W
  sz : w.heap.size + 4 ≤ W.heap.size
theorem DrI.kept {w : World} {q p pa : Nat} {AA : Ar} {F : Nat → Lab} {B : Int → Nat} {top : Int} {L : HL} {wv fv : Value} {ws gs fs : List Int} {x : Ob} {sv iv : Value} {c : Int} {g : List Int} {W W' : World} {row : Option Nat} (h : DrI w q p pa AA F B top L wv fv ws gs fs x sv iv c g W) (hg : W.grownBy W' row) (hr : ∀ r, row = some r → w.heap.size + 4 ≤ r ∧ ∃ o : Obj, W.heap[r]? = some o ∧ o.isCells = false) :
    DrI w q p pa AA F B top L wv fv ws gs fs x sv iv c g W' := by
  have hn : NoCells W row := fun r e => (hr r e).2
  obtain ⟨Sa1, AA1, F1, gv, hv, k1, k2, k3, k4, k5, k6, k7, k8, k9, k10, k11, k12, k13⟩ := h.ex
  refine ⟨⟨Sa1, AA1, F1, gv, hv, k1.kept hg hn, fun k o hk ho => ?_, k3.kept hg hn, k4.kept hg hn, k5, k6, k7, k8, k9, k10, k11.kept hg (not_cells k11 hn), owns_not_cells k12 hg hn, k13⟩, h.bs.kept hg (not_cells h.bs hn), h.b1.kept hg (not_cells h.b1 hn), h.b2.kept hg (not_cells h.b2 hn), Fr.grown h.fr hg (fun k e hl => by have := (hr k e).1; omega), Nat.le_trans h.sz hg.size⟩
  have hlt := k1.ar.lt k hk
  cases ho0 : W.heap[k]? with
  | none =>
    have := Array.getElem?_eq_none_iff.1 ho0
    omega
  | some o0 =>
    have hc := k2 k o0 hk ho0
    have : W'.heap[k]? = some o0 := (hg.block k hlt (fun e => by
      obtain ⟨o2, h2, h3⟩ := hn k e.symm
      rw [ho0] at h2
      cases h2
      rw [hc] at h3
      cases h3)).trans ho0
    rw [this] at ho
    cases ho
    exact hc
theorem DrI.gd {w : World} {q p pa : Nat} {AA : Ar} {F : Nat → Lab} {B : Int → Nat} {top : Int} {L : HL} {wv fv : Value} {ws gs fs : List Int} {x : Ob} {sv iv : Value} {c : Int} {pre : List (Int × Nat)} {W : World} (h : DrI w q p pa AA F B top L wv fv ws gs fs x sv iv c (hds pre) W) (hi : HIn top L) (hx : x ∈ L) :
    GdP (w.heap.size + 2) (w.heap.size + 3) p (B x.h) x.h iv x.inners B pre W := by
  obtain ⟨Sa1, AA1, F1, gv, hv, k1, k2, k3, k4, k5, k6, k7, k8, k9, k10, k11, k12, k13⟩ := h.ex
  refine ⟨h.b1.cell, h.b2.cell, k4.c3, k4.hi, fun y hy => ?_⟩
  obtain ⟨e1, e2, e3⟩ := parts_next (List.nodup_cons.2 ⟨hi.self hx, hi.idp x hx⟩) rfl hy
  obtain ⟨o, ho, he⟩ : ∃ o ∈ L, o.h = y.1 := by
    rcases List.mem_cons.1 e2 with e | e
    · exact ⟨x, hx, e.symm⟩
    · obtain ⟨o, ho, h4, _⟩ := hi.inn x hx _ e
      exact ⟨o, ho, h4⟩
  have hf := find_some k1 (o := o) (List.mem_filter.2 ⟨ho, by simp only [Bool.not_eq_true', List.contains_eq_mem, decide_eq_false_iff_not]; rw [he]; exact e3⟩)
  rw [he, ← e1] at hf
  exact hf
theorem grown_of_below {W W' : World} (hb : Below W.heap.size W W') : W.grownBy W' none := ⟨hb.os, hb.tape, hb.output, hb.size, fun k hk _ => hb.block k hk⟩
def DropPost (w : World) (q p pa : Nat) (AA : Ar) (F : Nat → Lab) (B : Int → Nat) (top : Int) (L : HL) (wv fv : Value) (ws gs fs : List Int) (x : Ob) (e : Ending) (w' : World) : Prop :=
  ∃ vh, e = .returned vh ∧ ∃ Sa1 AA1 F1 gv, HpW w' p pa Sa1 AA1 F1 B top (awa L x.h).1 ∧ SwW w' q p F1 wv gv fv ws (gs ++ x.h :: x.inners) fs ∧ DrR (er AA) (x.h :: x.inners) (er AA1) ∧
    w'.ownsRow 0 67 2 vh (awa L x.h).2.1.length (lkv (awa L x.h).2.1) ∧ (∀ k, vh.ownBlock = some k → F1 k = outL) ∧ (∀ k, k < w.heap.size → F1 k = F k) ∧ FrF F w w'
section
variable {w : World} {q p pa : Nat} {Sa : Nat → Prop} {AA : Ar} {F : Nat → Lab} {B : Int → Nat} {top : Int} {L : HL} {wv gv fv : Value} {ws gs fs : List Int}
set_option maxRecDepth 100000 in
set_option maxHeartbeats 4000000 in
theorem drop_in (n : Nat) (hn : 3 ≤ n) (h : HpW w p pa Sa AA F B top L) (hs : SwW w q p F wv gv fv ws gs fs) (hi : HIn top L) {x : Ob} (hx : x ∈ L) (hx0 : x.outer = 0) (hg : gs.length + 1 + x.inners.length ≤ 1000000) (hF : ∀ k, w.heap.size ≤ k → F k = outL) :
    CallsIn Fence.wide n Try.prog 67 #[.pointer (some ⟨q, 0, none⟩), .int .u64 x.h] w (DropPost w q p pa AA F B top L wv fv ws gs fs x) := by
  have h1 : 1 ≤ n := by omega
  obtain ⟨sv, iv, c, hbx⟩ := h.ob x hx
  obtain ⟨w1, hw1⟩ : ∃ w1, w1 = (w.alloc (.cells #[.pointer (some ⟨q, 0, none⟩)] 143)).alloc (.cells #[.slice none 0 0] 77) := ⟨_, rfl⟩
  have cq0 := hs.c0
  have hql := hs.lt
  have d0 : w1.cell? ⟨w.heap.size, 0, none⟩ = some (.pointer (some ⟨q, 0, none⟩)) := by
    rw [hw1, World.cell?_of_block (Below.heap_alloc _ _ _ (by simp)), cell_of_row _ _ 0 _ _ _ (heap_alloc_new _ _)]; rfl
  have d1 : w1.cell? ⟨q, 0, none⟩ = some (.pointer (some ⟨p, 0, none⟩)) := by
    rw [hw1, World.cell?_of_block (Below.heap_alloc _ _ _ (by simp; omega)), World.cell?_of_block (Below.heap_alloc _ _ _ hql)]; exact cq0
  have hsz1 : w1.heap.size = w.heap.size + 2 := by rw [hw1]; simp
  have HW1 := hid hw1
  have H := hid h
  have HS := hid hs
  have HI := hid hi
  have HX := hid hx
  have HX0 := hid hx0
  have HG := hid hg
  have HF := hid hF
  have HBX := hid hbx
  have HZ1 := hid hsz1
  clear h hs hi hx hx0 hg hF hbx cq0 hw1 hsz1
  generalize hxh : x.h = xh at *
  have HXH := hid hxh
  clear hxh
  refine callsIn_of_wp_marks Try.func67 rfl trivial ?_ rfl
  simp only [Try.ntmps67, List.size_toArray, List.length_cons, List.length_nil, Nat.reduceAdd, Nat.reduceSub, Array.replicate_succ, Array.replicate_zero, List.push_toArray, List.append_toArray, List.nil_append, List.cons_append]
  gi_upto_region 2 with (fail)
  rw [← HW1.out]
  gi_wp2
  refine ⟨trivial, (callsIn_wide.2 (parts_any w1 p xh)).mono ?_⟩
  rintro e w2 ⟨rfl, hw2⟩
  have hz2 : w2.heap.size = w.heap.size + 4 := by rw [hw2]; simp; have := HZ1.out; omega
  have hbelow : Below w.heap.size w w2 := by
    rw [hw2, HW1.out]
    exact ((((Below.refl _ _).alloc (Nat.le_refl _) _).alloc (by simp) _).alloc (by simp; omega) _).alloc (by simp; omega) _
  have e1 : w1.heap.size = w.heap.size + 2 := HZ1.out
  rw [show w1.heap.size + 1 = w.heap.size + 3 by omega, e1]
  have hbs : Boxed w2 w.heap.size 143 (.pointer (some ⟨q, 0, none⟩)) := by
    have b0 := ((Boxed.new w 143 (.pointer (some ⟨q, 0, none⟩))).alloc (.cells #[.slice none 0 0] 77))
    rw [← HW1.out] at b0
    rw [hw2]
    exact (b0.alloc _).alloc _
  have hbh : Boxed w2 (w.heap.size + 1) 77 (.slice none 0 0) := by
    have b0 := Boxed.new (w.alloc (.cells #[.pointer (some ⟨q, 0, none⟩)] 143)) 77 (.slice none 0 0)
    rw [← HW1.out] at b0
    simp only [World.size_alloc] at b0
    rw [hw2]
    exact (b0.alloc _).alloc _
  have hb1 : Boxed w2 (w.heap.size + 2) 24 (.pointer (some ⟨p, 0, none⟩)) := by
    have b0 := (Boxed.new w1 24 (.pointer (some ⟨p, 0, none⟩))).alloc (.cells #[.int .u64 xh] 34)
    rw [← hw2, e1] at b0
    exact b0
  have hb2 : Boxed w2 (w.heap.size + 3) 34 (.int .u64 xh) := by
    have b0 := Boxed.new (w1.alloc (.cells #[.pointer (some ⟨p, 0, none⟩)] 24)) 34 (.int .u64 xh)
    rw [← hw2] at b0
    simp only [World.size_alloc, e1] at b0
    exact b0
  have hfr2 : Fr (fun _ => False) w w2 := Fr.of_below hbelow
  obtain ⟨Sx, hSx, hax, hcx⟩ := H.out.ar.exact
  have hDI : DrI w q p pa AA F B top L wv fv ws gs fs x sv iv c [] w2 := by
    refine ⟨⟨Sx, AA, F, gv, .slice none 0 0, ?_, ?_, ?_, ?_, .nil _, fun _ _ => rfl, HF.out _ (Nat.le_refl _), HF.out _ (by omega), HF.out _ (by omega), HF.out _ (by omega), hbh, World.ownsRow_nil _ _ _ _, fun k hk => by simp [Value.ownBlock] at hk⟩, hbs, hb1, by rw [HXH.out]; exact hb2, Fr.of_below hbelow, by omega⟩
    · have hw : HpW w p pa Sx AA F B top L := ⟨H.out.hp, hax, fun k hk => H.out.fa k (hSx k hk), H.out.fp, H.out.ob, H.out.pl, H.out.co⟩
      have := hw.fr hfr2 (fun e => e) (fun _ _ e => e) (fun _ _ _ _ _ e => e) (fun _ _ => rfl)
      rw [List.filter_eq_self.2 (by simp)]
      exact this
    · intro k o hk ho
      rw [hbelow.block k (hax.lt k hk)] at ho
      exact hcx k o hk ho
    · rw [List.append_nil]
      exact HS.out.fr hfr2 (fun _ _ _ e => e) (fun _ _ => rfl)
    · rw [HXH.out]
      exact HBX.out.fr hfr2 (fun _ _ _ e => e) (fun _ _ => rfl)
  have HDI := hid hDI
  have HZ2 := hid hz2
  have HBEL := hid hbelow
  clear hDI hz2 hbelow hbs hbh hb1 hb2 hfr2 hax hcx hSx e1 hw2 d0 d1
  obtain ⟨bS, hbS⟩ : ∃ bS, bS = w.heap.size := ⟨_, rfl⟩
  rw [← hbS] at HZ2 ⊢
  have HBS := hid hbS
  clear hbS
  gi_wp2
  refine rangeFunc_x rfl h1 (gf := 73) (lb := #[.pointer (some ⟨bS + 2, 0, none⟩), .pointer (some ⟨bS + 3, 0, none⟩)]) rfl trivial (enters_of Try.func73 (by kernel_rfl) rfl)
    (parts_it (n - 1) w2 (bS + 2) (bS + 3) p (B xh) xh iv x.inners B (by have := HG.out; omega)) (fun _ W W' e => by subst e; exact Below.refl _ _) (fun _ {A B C} _ _ => trivial) (fun _ _ _ _ _ _ _ _ _ => trivial) (fun _ => rfl)
    (fun (_ : Unit) pre W => DrI w q p pa AA F B top L wv fv ws gs fs x sv iv c (hds pre) W) (fun _ _ _ => False)
    (fun _ pre W W' row hs hg hr => hs.kept hg (fun r e => ⟨by have := (hr r e).1; have := HZ2.out; have := HBS.out; omega, (hr r e).2⟩)) (fun _ _ _ _ _ hs _ _ => hs) ?gd ?g0 ?h0
    (fun (_ : Unit) pre y a' W => DrI w q p pa AA F B top L wv fv ws gs fs x sv iv c (hds pre) W ∧ a' = { tmps := #[.pointer (some ⟨q, 0, none⟩), .int .u64 xh, .pointer (some ⟨bS, 0, none⟩), undef, .slice none 0 0, .pointer (some ⟨bS + 1, 0, none⟩), .int .u64 y.1, .pointer (some ⟨y.2, 0, none⟩), .pointer (some ⟨q, 0, none⟩), .pointer (some ⟨q, 0, none⟩), .pointer (some ⟨q, 0, none⟩), .pointer (some ⟨p, 0, none⟩), .int .u64 xh, .func (.func 73) #[] #[.pointer (some ⟨bS + 2, 0, none⟩), .pointer (some ⟨bS + 3, 0, none⟩)], .int .u64 y.1, .pointer (some ⟨y.2, 0, none⟩), undef, undef, undef, undef, undef, undef, undef, undef, undef, undef, undef, undef, undef, undef, undef, undef, undef, undef, undef, undef, undef, undef, undef, undef, undef, undef], defers := [] })
    (fun _ pre y a' _ W W' row hs hg hr => ⟨hs.1.kept hg (fun r e => ⟨by have := (hr r e).1; have := HZ2.out; have := HBS.out; omega, (hr r e).2⟩), hs.2⟩)
    ?assign ?body ?done ?stop
  case gd =>
    intro _ pre W hd
    have := hd.gd HI.out HX.out
    rw [HXH.out, ← HBS.out] at this
    exact this
  case g0 =>
    intro W hb
    have := (HDI.out.kept (grown_of_below hb) (fun r e => by cases e)).gd (pre := []) HI.out HX.out
    rw [HXH.out, ← HBS.out] at this
    exact this
  case h0 =>
    rintro _ W1 W hb _ rfl
    exact HDI.out.kept (grown_of_below hb) (fun r e => by cases e)
  case assign =>
    rintro lo _ pre y Wc K hI _ hK
    simp only [encO]
    have HKK := hid hK
    have HII := hid hI
    clear hK hI
    gi_wp2
    exact HKK.out _ _ (KeepsFrom.refl _ _) trivial ⟨HII.out, rfl⟩
  case body =>
    rintro lo _ pre y a' W hlo ⟨r, hr⟩ hpx ⟨hDW, rfl⟩
    obtain ⟨e1, e2, e3⟩ := parts_next (List.nodup_cons.2 ⟨HI.out.self HX.out, HI.out.idp x HX.out⟩) rfl (by rw [HXH.out]; exact hpx)
    obtain ⟨yh, yb⟩ := y
    simp only at e1 e2 e3
    subst e1
    obtain ⟨o, ho, he⟩ : ∃ o ∈ L, o.h = yh := by
      rcases List.mem_cons.1 e2 with e | e
      · exact ⟨x, HX.out, e.symm⟩
      · obtain ⟨o, ho, h4, _⟩ := HI.out.inn x HX.out _ e
        exact ⟨o, ho, h4⟩
    obtain ⟨Sa1, AA1, F1, gv1, hv1, k1, k2, k3, k4, k5, k6, k7, k8, k9, k10, k11, k12, k13⟩ := hDW.ex
    have hoL : o ∈ L.filter fun o => !((hds pre).contains o.h) := List.mem_filter.2 ⟨ho, by simp only [Bool.not_eq_true', List.contains_eq_mem, decide_eq_false_iff_not]; rw [he]; exact e3⟩
    obtain ⟨i, sp, f1, f2, f3, f4⟩ := k1.pl o hoL
    rw [he] at f3
    have hfound : Found AA1 yh i sp := ⟨f1, f2, f3⟩
    have HDR := hid (Drop_any Sa1 W pa AA1 i sp yh k1.ar hfound)
    obtain ⟨so, io, co, hob⟩ := k1.ob o hoL
    rw [he] at hob
    have d0 := hDW.bs.cell
    rw [← HBS.out] at d0
    have d1 := k3.c0
    have d2 := k1.c0
    have K1 := hid k1
    have K2 := hid k2
    have K3 := hid k3
    have K4 := hid k4
    have K5 := hid k5
    have K6 := hid k6
    have K7 := hid k7
    have K8 := hid k8
    have K9 := hid k9
    have K10 := hid k10
    have K11 := hid k11
    have K12 := hid k12
    have K13 := hid k13
    have HDW := hid hDW
    have HOB := hid hob
    have HFO := hid hfound
    have HE := hid he
    have HO := hid ho
    have HPX := hid hpx
    have HE3 := hid e3
    have HE2 := hid e2
    have HOL := hid hoL
    clear k1 k2 k3 k4 k5 k6 k7 k8 k9 k10 k11 k12 k13 hDW hob hfound f1 f2 f3 f4 ho he hpx e3 e2 hoL hr hlo
    gi_wp2
    refine ⟨trivial, (fun h => by cases h), (CallsIn.inRound lo (callsIn_wide.2 HDR.out)).mono ?_⟩
    rintro e W2 ⟨⟨v, rfl⟩, ha2, hf2⟩
    -- the arena's blocks alone
    obtain ⟨S2, hS2, ha2, hc2⟩ := ha2.exact
    have h2 := K1.out.drop HFO.out ha2 (fun k hk => by
      rcases hS2 k hk with e | e
      · exact .inl e
      · exact .inr e.1) hf2
    have nosa : ∀ k l j, F1 k = (l, j) → l ≠ 0 → ¬ Sa1 k := fun k l j e hl hk => by
      rw [K1.out.fa k hk] at e
      exact hl (congrArg Prod.fst e).symm
    have hzx := (H.out.bd HX.out).1
    have hzo := (H.out.bd HO.out).1
    rw [HE.out] at hzo
    have hlo2 : ∀ k, k < W.heap.size → nw F1 W.heap.size (0, 0) k = F1 k := fun k hk => nw_lt hk
    have hs2 := K3.out.fr (F' := nw F1 W.heap.size (0, 0)) hf2 (fun k j e => nosa k _ j e (by omega)) hlo2
    have hx2 := K4.out.fr (F' := nw F1 W.heap.size (0, 0)) hf2 (fun k j e => nosa k _ j e (by omega)) hlo2
    have ho2 := HOB.out.fr (F' := nw F1 W.heap.size (0, 0)) hf2 (fun k j e => nosa k _ j e (by have := HE.out; omega)) hlo2
    have hbox : ∀ {b : Nat} {t : TypeId} {u : Value}, Boxed W b t u → F1 b = outL → Boxed W2 b t u := fun hb hl => (hf2.block _ hb.lt (nosa _ (-100) 0 hl (by omega))).trans hb
    have hbs2 := hbox HDW.out.bs K7.out
    have hbh2 := hbox K11.out K8.out
    have hb12 := hbox HDW.out.b1 K9.out
    have hb22 := hbox HDW.out.b2 K10.out
    have hrow2 := hf2.owns K12.out (fun k hk => nosa k (-100) 0 (K13.out k hk) (by omega))
    have hsz2 := hf2.size
    have hko2 : KeepsOthers W W2 := KeepsOthers.of_fr hf2 K2.out
    have hdr2 : DrR (er AA) (hds pre ++ [yh]) (er (dropAt AA1 i sp)) := drr_more K5.out (by rw [er_drop]; exact .cons (er_found HFO.out) (.nil _))
    have hfrW2 : FrF F w W2 := FrF.trans HDW.out.fr (hf2.mono (fp2 := fun k => F1 k ≠ outL) (fun k hk _ => by rw [K1.out.fa k hk]; simp [outL])) K6.out
    obtain ⟨F2, hF2⟩ : ∃ F2, F2 = nw F1 W.heap.size (0, 0) := ⟨_, rfl⟩
    rw [← hF2] at h2 hs2 hx2 ho2
    have hag2 : ∀ k, k < W.heap.size → F2 k = F1 k := fun k hk => by rw [hF2]; exact nw_lt hk
    have hsd := HDW.out.sz
    have l0 : F2 bS = outL := by rw [hag2 _ (by have := HBS.out; omega), HBS.out]; exact K7.out
    have l1 : F2 (bS + 1) = outL := by rw [hag2 _ (by have := HBS.out; omega), HBS.out]; exact K8.out
    have l2 : F2 (bS + 2) = outL := by rw [hag2 _ (by have := HBS.out; omega), HBS.out]; exact K9.out
    have l3 : F2 (bS + 3) = outL := by rw [hag2 _ (by have := HBS.out; omega), HBS.out]; exact K10.out
    have lh : ∀ k, hv1.ownBlock = some k → F2 k = outL := fun k hk => by rw [hag2 k (K12.out.lt k hk).2]; exact K13.out k hk
    have hag : ∀ k, k < w.heap.size → F2 k = F k := fun k hk => by rw [hag2 k (by omega)]; exact K6.out k hk
    rw [← HBS.out] at hbs2 hbh2 hb12 hb22
    -- what the two appends need
    have c0 := hbs2.cell
    have c1 := hs2.c2
    have z1 := hs2.fz 2
    have c2 := hbh2.cell
    have z2 := hbh2.frozen
    have c3 := ho2.c0
    have hq2 := hs2.lt
    have hn1 : gv1.ownBlock ≠ some q := fun e => by have := hs2.lg _ e; rw [hs2.lq] at this; cases this
    have hn2 : gv1.ownBlock ≠ some bS := fun e => by have := hs2.lg _ e; rw [l0] at this; cases this
    have hn3 : gv1.ownBlock ≠ some (bS + 1) := fun e => by have := hs2.lg _ e; rw [l1] at this; cases this
    have hqb : q ≠ bS := fun e => by have := hs2.lq; rw [e, l0] at this; cases this
    have hqh : q ≠ bS + 1 := fun e => by have := hs2.lq; rw [e, l1] at this; cases this
    have hqy : q ≠ B yh := fun e => by
      have := hs2.lq
      have h3 := ho2.fb
      rw [HE.out] at h3
      rw [e, h3] at this
      have := congrArg Prod.fst this
      simp at this
      omega
    have hny : gv1.ownBlock ≠ some (B yh) := fun e => by
      have := hs2.lg _ e
      have h3 := ho2.fb
      rw [h3, HE.out] at this
      have := congrArg Prod.fst this
      simp at this
      omega
    have hgr := hs2.hg
    obtain ⟨ga, gc, rfl⟩ := own_form hgr
    obtain ⟨sa, sc, rfl⟩ := own_form ho2.hs
    obtain ⟨hA, hC, rfl⟩ := own_form hrow2
    obtain ⟨j0, hj0, hz0, hz1, hz2⟩ := info_parts infoU0
    obtain ⟨j1, hj1, hy0, hy1, hy2⟩ := info_parts infoLkB
    have glen : (gs ++ hds pre).length ≤ 1000000 := by
      have h5 := HPX.out.length_le
      have h6 := HG.out
      simp [partsL, hds] at h5 ⊢
      omega
    generalize hgn : (gs ++ hds pre).length = N at *
    have bSl : bS < W2.heap.size := hbs2.lt
    have bHl : bS + 1 < W2.heap.size := hbh2.lt
    have yl : B yh < W2.heap.size := ho2.lt
    have J0 := hid hj0
    have Z0 := hid hz0
    have Z1 := hid hz1
    have Z2 := hid hz2
    have J1 := hid hj1
    have Y0 := hid hy0
    have Y1 := hid hy1
    have Y2 := hid hy2
    have H2 := hid h2
    have HS2 := hid hs2
    have HX2 := hid hx2
    have HO2 := hid ho2
    have HB12 := hid hb12
    have HB22 := hid hb22
    have HBS2 := hid hbs2
    have HBH2 := hid hbh2
    have HROW2 := hid hrow2
    have HKO2 := hid hko2
    have HDR2 := hid hdr2
    have HFRW := hid hfrW2
    have HL0 := hid l0
    have HL1 := hid l1
    have HL2 := hid l2
    have HL3 := hid l3
    have HLH := hid lh
    have HAG := hid hag
    have HC2 := hid hc2
    have HGR := hid hgr
    have HGN := hid hgn
    have HN1 := hid hn1
    have HN2 := hid hn2
    have HN3 := hid hn3
    have HNY := hid hny
    have HSD := hid hsd
    have HSZ2 := hid hsz2
    have HZO := hid hzo
    clear hj0 hz0 hz1 hz2 hj1 hy0 hy1 hy2 h2 hs2 hx2 ho2 hb12 hb22 hbs2 hbh2 hrow2 hko2 hdr2 hfrW2 l0 l1 l2 l3 lh hag hag2 hc2 hgr hgn hn1 hn2 hn3 hny hsd hsz2 hF2 hlo2 nosa hbox hS2 ha2 hf2 hzx hzo HDR d0 d1 d2
    gi_wp2
    refine R.wp_region_mix [1, 1, 0, 0, 1, 0, 2, 2, 0, 0, 3] (fun W' => W'.cell? ⟨bS, 0, none⟩ = some (.pointer (some ⟨q, 0, none⟩)) ∧ W'.cell? ⟨q, 2, none⟩ = some (.slice ga N gc)) (by kernel_rfl) (by kernel_rfl) ⟨by simpa using c0, by simpa using c1⟩ ?_
    repeat (first
      | (refine' E.wpMix_value _ rfl rfl _ _; rotate_left; (solve | (intro W; go_simp) | (intro W; go_simp; with_reducible rfl)); simp only [Act.put, List.setIfInBounds_toArray, List.set_cons_zero, List.set_cons_succ])
      | (refine' E.wpMix_read _ rfl rfl _ _; rotate_left; (solve | (rintro W ⟨h1, h2⟩; go_simp) | (rintro W ⟨h1, h2⟩; go_simp; with_reducible rfl)); simp only [Act.put, List.setIfInBounds_toArray, List.set_cons_zero, List.set_cons_succ]))
    obtain ⟨Wd, hWd⟩ : ∃ Wd, Wd = W2.drew := ⟨_, rfl⟩
    rw [← hWd]
    have hd1 : Wd.heap = W2.heap := by rw [hWd]; rfl
    have d0 : Wd.cell? ⟨bS, 0, none⟩ = some (.pointer (some ⟨q, 0, none⟩)) := by rw [hWd]; simpa using c0
    have d1 : Wd.cell? ⟨q, 2, none⟩ = some (.slice ga N gc) := by rw [hWd]; simpa using c1
    have hqd : q < Wd.heap.size := by rw [hd1]; exact hq2
    have hbd : bS < Wd.heap.size := by rw [hd1]; exact bSl
    have HGRd := hid (show Wd.ownsRow 0 TU 1 (.slice ga N gc) N ((gs ++ hds pre).map u64v) by rw [hWd]; exact HGR.out)
    have HWD := hid hWd
    have HD1 := hid hd1
    clear hWd hd1
    refine E.wpMix_write (.slice (some ⟨Wd.heap.size, 0, none⟩) 1 1) (Wd.alloc (.cells #[.int .u64 yh] TU)) (by decide) rfl ?nrun1 ?nS1 ?nrest1
    case nrun1 => go_simp
    case nS1 => exact fun _ => ⟨by rw [World.cell?_of_block (Below.heap_alloc _ _ _ hbd)]; exact d0, by rw [World.cell?_of_block (Below.heap_alloc _ _ _ hqd)]; exact d1⟩
    simp only [Act.put, List.setIfInBounds_toArray, List.set_cons_zero, List.set_cons_succ]
    refine R.wpMix_append (by decide) rfl (.tmp 29) (.tmp 31) 43 rfl 0 TU j0 (.int .u64 0) 1 8 Try.underlying43 J0.out Z0.out Z1.out Z2.out rfl (by decide) (.slice ga N gc) N _ rfl (HGRd.out.alloc _) ⟨Wd.heap.size, 0, none⟩ 1 1 [.int .u64 yh] rfl rfl (cell_one_new _ _ _) (by simp [Value.oneCell']) (by decide) (by unfold maxLen; omega) (by omega) (Nat.zero_le _) (Wd.heap.size + 1) (by simp) ?_
    intro g3 k3 Wa hown3 hgrow3 hat3 _
    have hbq : Wa.heap[q]? = Wd.heap[q]? := by
      rw [hgrow3.block q (by simp; omega) (fun e => HN1.out e.symm)]; exact Below.heap_alloc _ _ _ hqd
    have hbb : Wa.heap[bS]? = Wd.heap[bS]? := by
      rw [hgrow3.block bS (by simp; omega) (fun e => HN2.out e.symm)]; exact Below.heap_alloc _ _ _ hbd
    have q3 : Wa.cell? ⟨q, 2, none⟩ = some (.slice ga N gc) := (World.cell?_of_block hbq).trans d1
    have z3 : Wa.frozen? ⟨q, 2, none⟩ = false := by rw [World.frozen?_of_block hbq, HWD.out]; exact z1
    have q4 : Wa.cell? ⟨bS, 0, none⟩ = some (.pointer (some ⟨q, 0, none⟩)) := (World.cell?_of_block hbb).trans d0
    refine ⟨fun _ => ⟨q4, q3⟩, ?_⟩
    have hfr3 : Fr (fun k => k = q ∨ (Value.slice ga N gc).ownBlock = some k) W2 (Wa.setCell ⟨q, 2, none⟩ (.slice (some ⟨g3, 0, none⟩) (N + 1) k3)) := by
      have h0 : Fr (fun k => k = q ∨ (Value.slice ga N gc).ownBlock = some k) W2 Wd := by rw [HWD.out]; exact (Fr.refl _ _).drew
      exact ((h0.alloc _).grown hgrow3 (fun k hk _ => .inr hk)).setCell _ _ (fun _ => .inl rfl)
    have hq3 : (Wa.setCell ⟨q, 2, none⟩ (.slice (some ⟨g3, 0, none⟩) (N + 1) k3)).heap[q]? = some (.cells #[.pointer (some ⟨p, 0, none⟩), wv, .slice (some ⟨g3, 0, none⟩) (N + 1) k3, fv] 118 (0, 0)) := by
      have h4 := HS2.out.hq
      rw [← HD1.out, ← hbq] at h4
      rw [heap_setCell_same _ _ _ _ _ _ h4]; rfl
    have hs3 := HS2.out.pushg (h := yh) hfr3 hq3 (by
      have h4 := hown3
      rw [List.length_append, List.map_append, HGN.out]
      refine ownsRow_setCell_other h4 (fun e => ?_) _
      simp [Value.ownBlock] at e
      rcases hat3 with e2 | e2
      · rw [e] at e2; exact HN1.out e2
      · omega) (fun k hk => by
        simp [Value.ownBlock] at hk
        subst hk
        rcases hat3 with e2 | e2
        · exact .inl e2
        · right; have := congrArg Array.size HD1.out; omega)
    have hl3 : ∀ k, (k = q ∨ (Value.slice ga N gc).ownBlock = some k) → (F2 k).1 ≤ -2 ∧ F2 k ≠ outL := fun k hk => by
      rcases hk with rfl | hk
      · rw [HS2.out.lq]; simp [outL]
      · rw [HS2.out.lg k hk]; simp [outL]
    have h3 := H2.out.low hfr3 (fun k hk => (hl3 k hk).1) (fun k hk => nw_lt (l := (-2, 2)) hk)
    have hx3 := HX2.out.fr (F' := nw F2 W2.heap.size (-2, 2)) hfr3 (fun k j e => lab_low (fun k hk => (hl3 k hk).1) e (by have := (H.out.bd HX.out).1; omega)) (fun k hk => nw_lt hk)
    have ho3 := HO2.out.fr (F' := nw F2 W2.heap.size (-2, 2)) hfr3 (fun k j e => lab_low (fun k hk => (hl3 k hk).1) e (by have := HZO.out; have := HE.out; omega)) (fun k hk => nw_lt hk)
    have hbox3 : ∀ {b : Nat} {t : TypeId} {u : Value}, Boxed W2 b t u → F2 b = outL → Boxed (Wa.setCell ⟨q, 2, none⟩ (.slice (some ⟨g3, 0, none⟩) (N + 1) k3)) b t u := fun hb hl => (hfr3.block _ hb.lt (fun e => (hl3 _ e).2 hl)).trans hb
    have hbs3 := hbox3 HBS2.out HL0.out
    have hbh3 := hbox3 HBH2.out HL1.out
    have hb13 := hbox3 HB12.out HL2.out
    have hb23 := hbox3 HB22.out HL3.out
    have hrow3 := hfr3.owns HROW2.out (fun k hk e => (hl3 k e).2 (HLH.out k hk))
    have hca3 : ∀ k o, S2 k → (Wa.setCell ⟨q, 2, none⟩ (.slice (some ⟨g3, 0, none⟩) (N + 1) k3)).heap[k]? = some o → o.isCells = true := fun k o hk hoo => by
      refine HC2.out k o hk ?_
      rw [← hoo]
      exact (hfr3.block k (H2.out.ar.lt k hk) (fun e => by have := (hl3 k e).1; rw [H2.out.fa k hk] at this; simp at this)).symm
    have hko3 : KeepsOthers W2 (Wa.setCell ⟨q, 2, none⟩ (.slice (some ⟨g3, 0, none⟩) (N + 1) k3)) := KeepsOthers.of_fr hfr3 (fun k o hk hoo => by
      rcases hk with rfl | hk
      · rw [HS2.out.hq] at hoo; cases hoo; rfl
      · exact own_cells HGR.out hk hoo)
    have hff3 : FrF F w (Wa.setCell ⟨q, 2, none⟩ (.slice (some ⟨g3, 0, none⟩) (N + 1) k3)) := FrF.trans HFRW.out (hfr3.mono (fp2 := fun k => F2 k ≠ outL) (fun k hk _ => (hl3 k hk).2)) HAG.out
    simp only [Act.put, List.setIfInBounds_toArray, List.set_cons_zero, List.set_cons_succ]
    repeat (first
      | (refine' E.wpMix_value _ rfl rfl _ _; rotate_left; (solve | (intro W; go_simp) | (intro W; go_simp; with_reducible rfl)); simp only [Act.put, List.setIfInBounds_toArray, List.set_cons_zero, List.set_cons_succ]))
    refine E.wpMix_skip (Wa.setCell ⟨q, 2, none⟩ (.slice (some ⟨g3, 0, none⟩) (N + 1) k3)) (by decide) rfl ?nrun2 (fun h => by cases h) ?nrest2
    case nrun2 => go_simp
    simp only [Act.put]
    refine E.wpMix_end ?_
    obtain ⟨W3, hW3⟩ : ∃ W3, W3 = Wa.setCell ⟨q, 2, none⟩ (.slice (some ⟨g3, 0, none⟩) (N + 1) k3) := ⟨_, rfl⟩
    rw [← hW3] at h3 hs3 hx3 ho3 hbs3 hbh3 hb13 hb23 hrow3 hca3 hko3 hff3 hfr3 ⊢
    obtain ⟨F3, hF3⟩ : ∃ F3, F3 = nw F2 W2.heap.size (-2, 2) := ⟨_, rfl⟩
    rw [← hF3] at h3 hs3 hx3 ho3
    have hag3 : ∀ k, k < W2.heap.size → F3 k = F2 k := fun k hk => by rw [hF3]; exact nw_lt hk
    have hsz3 := hfr3.size
    have l0 : F3 bS = outL := (hag3 _ bSl).trans HL0.out
    have l1 : F3 (bS + 1) = outL := (hag3 _ bHl).trans HL1.out
    have l2 : F3 (bS + 2) = outL := (hag3 _ HB12.out.lt).trans HL2.out
    have l3 : F3 (bS + 3) = outL := (hag3 _ HB22.out.lt).trans HL3.out
    have lh : ∀ k, (Value.slice hA (List.flatMap (linksOf L) (hds pre)).length hC).ownBlock = some k → F3 k = outL := fun k hk => (hag3 k (HROW2.out.lt k hk).2).trans (HLH.out k hk)
    have hag : ∀ k, k < w.heap.size → F3 k = F k := fun k hk => (hag3 k (by have := HSD.out; have := HSZ2.out; omega)).trans (HAG.out k hk)
    have hsd : w.heap.size + 4 ≤ W3.heap.size := by have := HSD.out; have := HSZ2.out; omega
    have e2 := hbh3.cell
    have e3 := hbh3.frozen
    have e4 := ho3.c0
    have hbl3 : bS + 1 < W3.heap.size := hbh3.lt
    have yl3 : B yh < W3.heap.size := ho3.lt
    have hnh1 : (Value.slice hA (List.flatMap (linksOf L) (hds pre)).length hC).ownBlock ≠ some (bS + 1) := fun e => (hbh3.not_row (by decide) hrow3) e.symm
    have hnh2 : (Value.slice hA (List.flatMap (linksOf L) (hds pre)).length hC).ownBlock ≠ some (B yh) := fun e => by
      have h5 := lh _ e
      have h6 := ho3.fb
      rw [h6, HE.out] at h5
      have := congrArg Prod.fst h5
      simp [outL] at this
      have := HZO.out
      omega
    have hlinks : linksOf L yh = o.links := by
      unfold linksOf
      have := fnd_mem HI.out.nd HO.out
      rw [HE.out] at this
      rw [this]
    have hP : (List.flatMap (linksOf L) (hds pre)).length ≤ 16000000 := by
      have h5 := links_len8 HI.out (hds pre)
      simp only [List.length_append] at HGN
      have h6 := HGN.out
      omega
    have hlk8 := (HI.out.lnk o HO.out).1
    have hss := ho3.hs
    generalize hPn : (List.flatMap (linksOf L) (hds pre)).length = M at *
    generalize hmn : o.links.length = m at *
    have H3 := hid h3
    have HS3 := hid hs3
    have HX3 := hid hx3
    have HO3 := hid ho3
    have HBS3 := hid hbs3
    have HBH3 := hid hbh3
    have HB13 := hid hb13
    have HB23 := hid hb23
    have HROW3 := hid hrow3
    have HCA3 := hid hca3
    have HKO3 := hid hko3
    have HFF3 := hid hff3
    have HL0' := hid l0
    have HL1' := hid l1
    have HL2' := hid l2
    have HL3' := hid l3
    have HLH' := hid lh
    have HAG' := hid hag
    have HSD' := hid hsd
    have HNH1 := hid hnh1
    have HNH2 := hid hnh2
    have HLN := hid hlinks
    have HPN := hid hPn
    have HMN := hid hmn
    have HSS := hid hss
    clear h3 hs3 hx3 ho3 hbs3 hbh3 hb13 hb23 hrow3 hca3 hko3 hff3 l0 l1 l2 l3 lh hag hag3 hsd hnh1 hnh2 hlinks hPn hmn hss hW3 hF3 hl3 hbox3 hq3 hown3 hgrow3 hat3 hbq hbb q3 z3 q4 d0 d1 c0 c1 z1 c2 z2 c3 hfr3
    gi_wp2
    refine R.wp_region_mix [1, 0, 0, 0, 1, 2, 3] (fun W' => W'.cell? ⟨bS + 1, 0, none⟩ = some (.slice hA M hC) ∧ W'.cell? ⟨B yh, 0, none⟩ = some (.slice sa m sc)) (by kernel_rfl) (by kernel_rfl) ⟨by simpa using e2, by simpa using e4⟩ ?_
    repeat (first
      | (refine' E.wpMix_value _ rfl rfl _ _; rotate_left; (solve | (intro W; go_simp) | (intro W; go_simp; with_reducible rfl)); simp only [Act.put, List.setIfInBounds_toArray, List.set_cons_zero, List.set_cons_succ])
      | (refine' E.wpMix_read _ rfl rfl _ _; rotate_left; (solve | (rintro W ⟨h1, h2⟩; go_simp) | (rintro W ⟨h1, h2⟩; go_simp; with_reducible rfl)); simp only [Act.put, List.setIfInBounds_toArray, List.set_cons_zero, List.set_cons_succ]))
    obtain ⟨We, hWe⟩ : ∃ We, We = W3.drew := ⟨_, rfl⟩
    rw [← hWe]
    have he1 : We.heap = W3.heap := by rw [hWe]; rfl
    have d2 : We.cell? ⟨bS + 1, 0, none⟩ = some (.slice hA M hC) := by rw [hWe]; simpa using e2
    have d4 : We.cell? ⟨B yh, 0, none⟩ = some (.slice sa m sc) := by rw [hWe]; simpa using e4
    have hbe : bS + 1 < We.heap.size := by rw [he1]; exact hbl3
    have hye : B yh < We.heap.size := by rw [he1]; exact yl3
    have hsse : We.ownsRow 0 67 2 (.slice sa o.links.length sc) o.links.length (lkv o.links) := by rw [hWe, HMN.out]; exact HSS.out
    have hrwe : We.ownsRow (w.heap.size + 4) 67 2 (.slice hA M hC) M (lkv (List.flatMap (linksOf L) (hds pre))) := by rw [hWe]; exact HROW3.out
    obtain ⟨a5, c5, W5, r1, r2, r3, r4⟩ := append_links (t := 77) (ty := 77) Try.underlying77 J1.out Y0.out Y1.out Y2.out hrwe hsse (by have := HMN.out; omega) (by rw [he1]; exact HSD'.out)
    rw [HMN.out] at r1 r2 r4
    have hb5 : W5.heap[bS + 1]? = We.heap[bS + 1]? := r3.block _ hbe (fun e => HNH1.out e.symm)
    have hy5 : W5.heap[B yh]? = We.heap[B yh]? := r3.block _ hye (fun e => HNH2.out e.symm)
    have q5 : W5.cell? ⟨bS + 1, 0, none⟩ = some (.slice hA M hC) := (World.cell?_of_block hb5).trans d2
    have z5 : W5.frozen? ⟨bS + 1, 0, none⟩ = false := by rw [World.frozen?_of_block hb5, hWe]; exact e3
    have y5 : W5.cell? ⟨B yh, 0, none⟩ = some (.slice sa m sc) := (World.cell?_of_block hy5).trans d4
    refine E.wpMix_write (.slice a5 (M + m) c5) W5 (by decide) rfl ?nrun3 ?nS3 ?nrest3
    case nrun3 =>
      unfold execOp
      simp only [resolve, invoke, builtin, Sem.run_bind, Sem.run_pure, Result.andThen_ok, List.map_toArray, List.map_cons, List.map_nil]
      simp [Act.eval, r1]
    case nS3 => exact fun _ => ⟨q5, y5⟩
    have hfr4 : Fr (fun k => k = bS + 1 ∨ (Value.slice hA M hC).ownBlock = some k) W3 (W5.setCell ⟨bS + 1, 0, none⟩ (.slice a5 (M + m) c5)) := by
      have h0 : Fr (fun k => k = bS + 1 ∨ (Value.slice hA M hC).ownBlock = some k) W3 We := by rw [hWe]; exact (Fr.refl _ _).drew
      exact (h0.grown r3 (fun k hk _ => .inr hk)).setCell _ _ (fun _ => .inl rfl)
    have hl4 : ∀ k, (k = bS + 1 ∨ (Value.slice hA M hC).ownBlock = some k) → F3 k = outL := fun k hk => by
      rcases hk with rfl | hk
      · exact HL1'.out
      · exact HLH'.out k hk
    have hl4' : ∀ k, (k = bS + 1 ∨ (Value.slice hA M hC).ownBlock = some k) → (F3 k).1 ≤ -2 := fun k hk => by rw [hl4 k hk]; simp [outL]
    have hnb5 : (Value.slice a5 (M + m) c5).ownBlock ≠ some (bS + 1) := fun e => by
      rcases r4 with e2 | e2
      · rw [e] at e2; exact HNH1.out e2.symm
      · rw [e] at e2
        simp only [Option.some.injEq] at e2
        omega
    have hfin : DrI w q p pa AA F B top L wv fv ws gs fs x sv iv c (hds (pre ++ [(yh, B yh)])) (W5.setCell ⟨bS + 1, 0, none⟩ (.slice a5 (M + m) c5)) := by
      have eh : hds (pre ++ [(yh, B yh)]) = hds pre ++ [yh] := by simp [hds]
      rw [eh]
      have ha4 : ∀ k, k < W3.heap.size → nw F3 W3.heap.size outL k = F3 k := fun k hk => nw_lt hk
      have hbx4 : ∀ {b : Nat} {t : TypeId} {u : Value}, Boxed W3 b t u → b ≠ bS + 1 → (Value.slice hA M hC).ownBlock ≠ some b → Boxed (W5.setCell ⟨bS + 1, 0, none⟩ (.slice a5 (M + m) c5)) b t u := fun hb h5 h6 => (hfr4.block _ hb.lt (fun e => by
        rcases e with e | e
        · exact h5 e
        · exact h6 e)).trans hb
      have hnl : ∀ k, (Value.slice hA M hC).ownBlock = some k → w.heap.size + 4 ≤ k := fun k hk => (HROW3.out.lt k hk).1
      have hb0 := HBS.out
      refine ⟨⟨S2, dropAt AA1 i sp, nw F3 W3.heap.size outL, .slice (some ⟨g3, 0, none⟩) (N + 1) k3, .slice a5 (M + m) c5, ?_, ?_, ?_, ?_, HDR2.out, ?_, ?_, ?_, ?_, ?_, ?_, ?_, ?_⟩, ?_, ?_, ?_, ?_, ?_⟩
      · have h5 := H3.out.low hfr4 hl4' ha4
        have e5 : (L.filter fun o => !((hds pre).contains o.h)).filter (fun o => !(o.h == yh)) = L.filter fun o => !((hds pre ++ [yh]).contains o.h) := by
          rw [List.filter_filter]
          refine List.filter_congr fun z _ => ?_
          rw [List.contains_append, List.contains_cons]
          cases (hds pre).contains z.h <;> cases (z.h == yh) <;> rfl
        rw [e5] at h5
        exact h5
      · intro k oo hk hoo
        refine HCA3.out k oo hk ?_
        rw [← hoo]
        exact (hfr4.block k (H3.out.ar.lt k hk) (fun e => by have := hl4 k e; rw [H3.out.fa k hk] at this; simp [outL] at this)).symm
      · have h5 := HS3.out.fr (F' := nw F3 W3.heap.size outL) hfr4 (fun k j e e2 => by have := hl4 k e2; rw [e] at this; simp [outL] at this) ha4
        rw [← List.append_assoc]
        exact h5
      · exact HX3.out.fr hfr4 (fun k j e => lab_low hl4' e (by have := (H.out.bd HX.out).1; omega)) ha4
      · intro k hk
        rw [ha4 k (by have := HSD'.out; omega)]; exact HAG'.out k hk
      · rw [← hb0, ha4 _ HBS3.out.lt]; exact HL0'.out
      · rw [← hb0, ha4 _ hbl3]; exact HL1'.out
      · rw [← hb0, ha4 _ HB13.out.lt]; exact HL2'.out
      · rw [← hb0, ha4 _ HB23.out.lt]; exact HL3'.out
      · have h5 : Boxed W5 (bS + 1) 77 (.slice hA M hC) := by
          have := HBH3.out
          show W5.heap[bS + 1]? = _
          rw [hb5, he1]; exact this
        rw [← hb0]
        exact h5.set _
      · have e6 : (hds pre ++ [yh]).flatMap (linksOf L) = (hds pre).flatMap (linksOf L) ++ o.links := by rw [List.flatMap_append]; simp [HLN.out]
        rw [e6, List.length_append, HPN.out, HMN.out, lkv_app]
        exact ownsRow_setCell_other r2 hnb5 _
      · intro k hk
        by_cases e : k < W3.heap.size
        · rw [ha4 k e]
          rcases r4 with e2 | e2
          · rw [e2] at hk; exact HLH'.out k hk
          · rw [hk, he1] at e2
            simp only [Option.some.injEq] at e2
            omega
        · exact nw_ge (by omega)
      · rw [← hb0]
        exact hbx4 HBS3.out (by omega) (fun e => by have := hnl _ e; omega)
      · rw [← hb0]
        exact hbx4 HB13.out (by omega) (fun e => by have := hnl _ e; omega)
      · have h5 := hbx4 HB23.out (by omega) (fun e => by have := hnl _ e; omega)
        rw [← hb0]
        exact h5
      · refine Fr.trans HFF3.out hfr4 (fun j hj hl => ?_)
        exfalso
        rcases hj with rfl | hj
        · omega
        · have := hnl j hj; omega
      · have := HSD'.out
        have := hfr4.size
        omega
    have hko4 : KeepsOthers W3 (W5.setCell ⟨bS + 1, 0, none⟩ (.slice a5 (M + m) c5)) := KeepsOthers.of_fr hfr4 (fun k oo hk hoo => by
      rcases hk with rfl | hk
      · rw [show W3.heap[bS + 1]? = _ from HBH3.out] at hoo; cases hoo; rfl
      · exact own_cells HROW3.out hk hoo)
    have hko : KeepsOthers W (W5.setCell ⟨bS + 1, 0, none⟩ (.slice a5 (M + m) c5)) := (HKO2.out.trans HKO3.out).trans hko4
    simp only [Act.put, List.setIfInBounds_toArray, List.set_cons_zero, List.set_cons_succ]
    refine E.wpMix_skip (W5.setCell ⟨bS + 1, 0, none⟩ (.slice a5 (M + m) c5)) (by decide) rfl ?nrun4 (fun h => by cases h) ?nrest4
    case nrun4 => go_simp
    simp only [Act.put]
    refine E.wpMix_end ?_
    exact ⟨hko.from _, trivial, hfin⟩
  case done =>
    rintro D _ W hD hDW hK
    obtain ⟨Sa1, AA1, F1, gv1, hv1, k1, k2, k3, k4, k5, k6, k7, k8, k9, k10, k11, k12, k13⟩ := hDW.ex
    have d0 := k11.cell
    rw [← HBS.out] at d0
    obtain ⟨ha, hc, rfl⟩ := own_form k12
    have HDW := hid hDW
    have K1 := hid k1
    have K3 := hid k3
    have K5 := hid k5
    have K6 := hid k6
    have K12 := hid k12
    have K13 := hid k13
    have HK := hid hK
    have HD := hid hD
    clear hDW k1 k2 k3 k4 k5 k6 k7 k8 k9 k10 k11 k12 k13 hK hD
    generalize hlen : (List.flatMap (linksOf L) (hds (partsL xh (B xh) x.inners B))).length = N at *
    have HLEN := hid hlen
    clear hlen
    gi_wp2
    have hK' : W.heap[D]? = some (.deferred (some [])) := HK.out
    refine ⟨by simp, .inl ⟨_, _, rfl, run_takeDeferred hK', ?_⟩⟩
    have hg := grownBy_putObj' W D (.deferred none)
    have hn : NoCells W (some D) := fun r e => by cases e; exact ⟨_, hK', rfl⟩
    have eh : hds (partsL xh (B xh) x.inners B) = x.h :: x.inners := by rw [HXH.out]; exact parts_all _ _ _ _
    rw [eh] at HLEN K1 K3 K5 K12
    have hfx := fnd_mem HI.out.nd HX.out
    have hall := held_all hfx
    refine ⟨.slice ha N hc, ?val, .slice ha N hc, rfl, Sa1, AA1, F1, gv1, ?w1, K3.out.kept hg hn, K5.out, ?w2, K13.out, K6.out, ?w3⟩
    case val => simp [results, Try.f67, go_sem]
    case w1 =>
      have := K1.out.kept hg hn
      rw [awa_some hfx]
      have e2 : (L.filter fun y => !(y.h == x.h || x.inners.contains y.h)) = L.filter fun o => !((x.h :: x.inners).contains o.h) := by
        refine List.filter_congr fun y _ => ?_
        rw [List.contains_cons]
      rw [e2]
      exact this
    case w2 =>
      rw [hall, HLEN.out]
      exact owns_low (owns_not_cells K12.out hg hn) (Nat.zero_le _)
    case w3 => exact Fr.grown HDW.out.fr hg (fun k e hl => by cases e; have := HD.out; have := HZ2.out; have := HBS.out; omega)
  case stop =>
    rintro D c pre W _ _ hf
    exact hf.elim
end
end Go.Proofs.Ytceokibalphgpaa

namespace Go.Proofs.Ytceokibalphgpaa
open Go Go.ChangeShapes Go.WideShapes Go.ChangeAt Go.RowKit

section
variable {w : World} {q p pa : Nat} {Sa : Nat → Prop} {AA : Ar} {F : Nat → Lab} {B : Int → Nat} {top : Int} {L : HL} {wv gv fv : Value} {ws gs fs : List Int}
theorem drop_any (h : HpW w p pa Sa AA F B top L) (hs : SwW w q p F wv gv fv ws gs fs) (hi : HIn top L) {x : Ob} (hx : x ∈ L) (hx0 : x.outer = 0) (hg : gs.length + 1 + x.inners.length ≤ 1000000) (hF : ∀ k, w.heap.size ≤ k → F k = outL) :
    Calls Try.prog 67 #[.pointer (some ⟨q, 0, none⟩), .int .u64 x.h] w (DropPost w q p pa AA F B top L wv fv ws gs fs x) :=
  (callsIn_wide (n := 3)).1 (drop_in 3 (by omega) h hs hi hx hx0 hg hF)
theorem SwW.setw (h : SwW w q p F wv gv fv ws gs fs) {wv' : Value} {ws' : List Int} (hq : QRow w wv' ws') (hb : wv'.ownBlock = wv.ownBlock) : SwW (w.setCell ⟨q, 1, none⟩ wv') q p F wv' gv fv ws' gs fs := by
  have hnw : ∀ {v : Value} {j : Nat}, (∀ k, v.ownBlock = some k → F k = (-2, j + 1)) → v.ownBlock ≠ some q := fun hv e => by
    have := hv _ e
    rw [h.lq] at this
    cases this
  have hw' : ∀ k, wv'.ownBlock = some k → F k = (-2, 1) := fun k hk => h.lw k (by rw [← hb]; exact hk)
  exact ⟨by rw [heap_setCell_same _ _ _ _ _ _ h.hq]; rfl, hq.set _ _ (hnw (j := 0) hw'), ownsRow_setCell_other h.hg (hnw (j := 1) h.lg) _, ownsRow_setCell_other h.hf (hnw (j := 2) h.lf) _, h.lq, hw', h.lg, h.lf⟩
end
theorem exec_tail {o : Oper} {f : Operand → Value} {W : World} {p l : Operand} {b oo o2 n cap : Nat} (ho : o.op = .slice 43 p (some l) none none) (hp : f p = .slice (some ⟨b, oo, none⟩) n cap) (hl : f l = .int .i64 1) (h1 : 1 ≤ n) (h2 : cap = 1 ∧ o2 = oo ∨ ¬ cap = 1 ∧ o2 = oo + 1) (_h3 : n ≤ cap) :
    (execOp f o).run Try.prog W = .ok (.value (.slice (some ⟨b, o2, none⟩) (n - 1) (cap - 1))) W := by
  unfold execOp
  simp only [ho, hp]
  simp only [Option.map, hl]
  rcases h2 with ⟨h3, rfl⟩ | ⟨h3, rfl⟩
  · go_simp
    intro h4
    omega
  · go_simp
    intro h4
    omega
/-- What is left to go, in memory. -/
structure RunI (w : World) (q p pa : Nat) (AA : Ar) (F : Nat → Lab) (B : Int → Nat) (top : Int) (L0 : HL) (ws0 gs fs : List Int) (m : Nat) (W : World) : Prop where
  ex : ∃ Sa1 AA1 F1 L wv gv fv ws g f, HpW W p pa Sa1 AA1 F1 B top L ∧ SwW W q p F1 wv gv fv ws (gs ++ g) (fs ++ f) ∧ HIn top L ∧ WQ L ws ∧ DrR (er AA) g (er AA1) ∧ (∀ L' g' f', Goes L ws L' g' f' → Goes L0 ws0 L' (g ++ g') (f ++ f')) ∧
    (∀ k, k < w.heap.size → F1 k = F k) ∧ (∀ k, W.heap.size ≤ k → F1 k = outL) ∧ L.length = m ∧ gs.length + g.length + L.length ≤ 100000 ∧ fs.length + f.length + totl L ≤ 1000000
  fr : FrF F w W
/-- Between two links. -/
structure LetI (w : World) (q p pa : Nat) (Sa : Nat → Prop) (AA : Ar) (F : Nat → Lab) (B : Int → Nat) (top : Int) (L : HL) (gv vh : Value) (ws gs fs : List Int) (P : List Lk) (j : Nat) (W : World) : Prop where
  ex : ∃ F1 wv fv, HpW W p pa Sa AA F1 B top (letg L (P.take j)).1 ∧ SwW W q p F1 wv gv fv (ws ++ (letg L (P.take j)).2.1) gs (fs ++ (letg L (P.take j)).2.2) ∧ (∀ k, k < w.heap.size → F1 k = F k) ∧ (∀ k, vh.ownBlock = some k → F1 k = outL) ∧ HIn top (letg L (P.take j)).1 ∧ WQ (letg L (P.take j)).1 (ws ++ (letg L (P.take j)).2.1)
  fr : FrF F w W
  row : W.ownsRow 0 67 2 vh P.length (lkv P)
def RunPost (w : World) (q p pa : Nat) (AA : Ar) (F : Nat → Lab) (B : Int → Nat) (top : Int) (L0 : HL) (ws0 gs fs : List Int) (e : Ending) (w' : World) : Prop :=
  (∃ v, e = .returned v) ∧ ∃ Lf g f Sa1 AA1 F1 wv gv fv, Goes L0 ws0 Lf g f ∧ HpW w' p pa Sa1 AA1 F1 B top Lf ∧ SwW w' q p F1 wv gv fv [] (gs ++ g) (fs ++ f) ∧ DrR (er AA) g (er AA1) ∧ (∀ k, k < w.heap.size → F1 k = F k) ∧ FrF F w w'
section
variable {w : World} {q p pa : Nat} {Sa : Nat → Prop} {AA : Ar} {F : Nat → Lab} {B : Int → Nat} {top : Int} {L : HL} {wv gv fv : Value} {ws gs fs : List Int}
theorem HpW.cut (h : HpW w p pa Sa AA F B top L) : HpW w p pa Sa AA (nw F w.heap.size outL) B top L := h.relab (fun _ hk => nw_lt hk)
theorem SwW.cut (h : SwW w q p F wv gv fv ws gs fs) : SwW w q p (nw F w.heap.size outL) wv gv fv ws gs fs := h.relab (fun _ hk => nw_lt hk)
set_option maxRecDepth 100000 in
set_option maxHeartbeats 4000000 in
theorem run_any (h : HpW w p pa Sa AA F B top L) (hs : SwW w q p F wv gv fv ws gs fs) (hi : HIn top L) (hw : WQ L ws) (htop : top ≤ 4294967295) (hg : gs.length + L.length ≤ 100000) (hf : fs.length + totl L ≤ 1000000) :
    Calls Try.prog 53 #[.pointer (some ⟨q, 0, none⟩)] w (RunPost w q p pa AA F B top L ws gs fs) := by
  have hR0 : RunI w q p pa AA F B top L ws gs fs L.length w :=
    ⟨⟨Sa, AA, nw F w.heap.size outL, L, wv, gv, fv, ws, [], [], h.cut, by simpa using hs.cut, hi, hw, .nil _, fun _ _ _ h => by simpa using h, fun k hk => nw_lt hk, fun k hk => nw_ge hk, rfl, by simpa using hg, by simpa using hf⟩, FrF.refl _ _⟩
  have HR0 := hid hR0
  have HTOP := hid htop
  clear hR0 h hs hi hw hg hf htop
  go_enter Try.func53, Try.ntmps53
  go_wp2_with fail
  go_loopg [] (L.length) (fun k wr => RowKit.Hid (RunI w q p pa AA F B top L ws gs fs k wr))
  case atStart => exact HR0
  case round =>
    obtain ⟨⟨Sa1, AA1, F1, L1, wv1, gv1, fv1, ws1, g1, f1, k1, k2, k3, k4, k5, k6, k7, k8, k9, k10, k11⟩, hfr⟩ := hrel.out
    have c1 := k2.c1
    have z1 := k2.fz 1
    cases ws1 with
    | nil =>
      obtain ⟨a, c, rfl, _⟩ := k2.hw.form
      have K1 := hid k1
      have K2 := hid k2
      have K5 := hid k5
      have K6 := hid k6
      have K7 := hid k7
      have HFR := hid hfr
      clear k1 k2 k3 k4 k5 k6 k7 k8 k9 k10 k11 hfr hrel
      simp only [List.length_nil] at c1
      go_wp2
      go_end0
      refine ⟨⟨_, rfl⟩, L1, g1, f1, Sa1, AA1, F1, _, gv1, fv1, ?_, K1.out, K2.out, K5.out, K7.out, HFR.out⟩
      simpa using K6.out L1 [] [] (.nil _)
    | cons x ws2 =>
      obtain ⟨o, ho, he, ho0, hoc⟩ := k4.is x (by simp)
      rcases k2.hw with ⟨_, e⟩ | ⟨gb, off, cap, cur, hwv, q1, q2, q3, q4, q5⟩
      · cases e
      subst hwv
      simp only [List.length_cons] at c1 q2
      have cx : wr.cell? ⟨gb, off, none⟩ = some (.int .u64 x) := by
        rw [cell_of_row wr gb off _ _ _ q1]
        have := q5 0 x rfl
        simpa using this
      obtain ⟨o2, ho2⟩ : ∃ o2, cap = 1 ∧ o2 = off ∨ ¬ cap = 1 ∧ o2 = off + 1 := by
        by_cases e : cap = 1
        · exact ⟨off, .inl ⟨e, rfl⟩⟩
        · exact ⟨off + 1, .inr ⟨e, rfl⟩⟩
      have hQ : QRow wr (.slice (some ⟨gb, o2, none⟩) ws2.length (cap - 1)) ws2 := by
        refine .inr ⟨gb, o2, cap - 1, cur, rfl, q1, by omega, by omega, by omega, fun j y hj => ?_⟩
        have hlt := (List.getElem?_eq_some_iff.1 hj).1
        have h5 := q5 (j + 1) y (by simpa using hj)
        rw [show o2 + j = off + (j + 1) by omega]
        exact h5
      have hs1 := k2.setw hQ rfl
      have hfr1 : Fr (fun k => k = q) wr (wr.setCell ⟨q, 1, none⟩ (.slice (some ⟨gb, o2, none⟩) ws2.length (cap - 1))) := (Fr.refl _ _).setCell _ _ (fun _ => rfl)
      have hp1 := k1.low hfr1 (fun k e => by rw [e, k2.lq]; simp) (fun _ _ => rfl)
      have hf01 : FrF F w (wr.setCell ⟨q, 1, none⟩ (.slice (some ⟨gb, o2, none⟩) ws2.length (cap - 1))) := FrF.trans hfr (hfr1.mono (fp2 := fun k => F1 k ≠ outL) (fun k e _ => by rw [e, k2.lq]; simp [outL])) k7
      obtain ⟨W1, hW1⟩ : ∃ W1, W1 = wr.setCell ⟨q, 1, none⟩ (.slice (some ⟨gb, o2, none⟩) ws2.length (cap - 1)) := ⟨_, rfl⟩
      rw [← hW1] at hs1 hp1 hf01
      have hsz1 : W1.heap.size = wr.heap.size := by rw [hW1]; simp
      obtain ⟨htot, hlen⟩ := awa_tot k3 ho
      have hdrop := drop_any hp1 hs1 k3 ho ho0 (by rw [List.length_append]; omega) (fun k hk => k8 k (by omega))
      have hi2 := k3.awa o.h (fun y hy e => by rw [ob_eq k3.nd ho hy e]; exact ho0)
      have hw2 := WQ.awa k4 k3
      rw [← he] at hw2
      rw [he] at hdrop
      have HDROP := hid hdrop
      have HW1 := hid hW1
      have HI2 := hid hi2
      have HWQ2 := hid hw2
      have HTOT := hid htot
      have HLEN := hid hlen
      have K3 := hid k3
      have K5 := hid k5
      have K6 := hid k6
      have K7 := hid k7
      have K9 := hid k9
      have K10 := hid k10
      have K11 := hid k11
      have HO := hid ho
      have HE := hid he
      have HF01 := hid hf01
      have HSZ1 := hid hsz1
      clear k1 k2 k3 k4 k5 k6 k7 k8 k9 k10 k11 hfr hrel hdrop hW1 hi2 hw2 htot hlen ho he ho0 hoc q1 q3 q4 q5 hQ hs1 hfr1 hp1 hf01 hsz1
      generalize ws2.length = n2 at *
      go_upto_region 3 with ((with_reducible refine at_op ⟨some 22, _, _, _, _, _⟩ ?_); go_loud (refine wpList_run rfl _ (exec_tail rfl rfl rfl (by omega) ho2 q2) ?_; rw [show n2 + 1 - 1 = n2 from rfl]))
      rw [← HW1.out]
      clear c1 z1 cx q2
      go_wp2_with fail
      refine HDROP.out.mono ?_
      rintro e W2 ⟨vh, rfl, Sa2, AA2, F2, gv2, d1, d2, d3, d4, d5, d6, d7⟩
      obtain ⟨ha, hc, rfl⟩ := own_form d4
      have hW12 : W1.heap.size ≤ W2.heap.size := d7.size
      have L0 : LetI W2 q p pa Sa2 AA2 F2 B top (awa L1 o.h).1 gv2 (.slice ha (awa L1 o.h).2.1.length hc) ws2 (gs ++ g1 ++ o.h :: o.inners) (fs ++ f1) (awa L1 o.h).2.1 0 W2 := by
        refine ⟨⟨F2, .slice (some ⟨gb, o2, none⟩) n2 (cap - 1), fv1, ?_, ?_, fun _ _ => rfl, d5, ?_, ?_⟩, FrF.refl _ _, d4⟩
        · simpa [letg] using d1
        · simpa [letg] using d2
        · simpa [letg] using HI2.out
        · simpa [letg] using HWQ2.out
      have HL0 := hid L0
      have D3 := hid d3
      have D6 := hid d6
      have D7 := hid d7
      have HW12 := hid hW12
      obtain ⟨P, hP⟩ : ∃ P, P = (awa L1 o.h).2.1 := ⟨_, rfl⟩
      obtain ⟨L2, hL2⟩ : ∃ L2, L2 = (awa L1 o.h).1 := ⟨_, rfl⟩
      rw [← hP, ← hL2] at HL0 HTOT
      rw [← hL2] at HI2 HLEN
      rw [← hP]
      obtain ⟨N, hN⟩ : ∃ N, N = P.length := ⟨_, rfl⟩
      have hlinks : ∀ l ∈ P, Nm l.kind ∧ Hn l.h := by
        intro l hl
        rw [hP, held_all (fnd_mem K3.out.nd HO.out)] at hl
        obtain ⟨y, _, hy⟩ := List.mem_flatMap.1 hl
        unfold linksOf at hy
        cases hf : fnd L1 y with
        | none => rw [hf] at hy; cases hy
        | some z =>
          rw [hf] at hy
          exact (K3.out.lnk z (fnd_some hf).1).2 l hy
      have hNb : N ≤ 1000000 := by have := HTOT.out; have := K11.out; omega
      have HP := hid hP
      have HL2 := hid hL2
      have HN := hid hN
      have HLK := hid hlinks
      rw [← hN]
      rw [← hN] at HL0
      clear d1 d2 d3 d4 d5 d6 d7 L0 hP hL2 hN hlinks hW12
      go_wp2
      go_loopw [29] (fun i wx => ∃ j : Nat, j ≤ N ∧ i = .int .i64 j ∧ RowKit.Hid (LetI W2 q p pa Sa2 AA2 F2 B top L2 gv2 (.slice ha N hc) ws2 (gs ++ g1 ++ o.h :: o.inners) (fs ++ f1) P j wx)) (fun i _ => N - (intOf i).toNat)
      case atStart => exact ⟨0, Nat.zero_le _, rfl, HL0⟩
      case round =>
        obtain ⟨j, hj, rfl, HJ⟩ := hrel
        by_cases hjl : j < N
        · have hjP : j < P.length := by rw [← HN.out]; exact hjl
          have hs : P[j]? = some P[j] := List.getElem?_eq_getElem hjP
          have htk : P.take (j + 1) = P.take j ++ [P[j]] := by rw [List.take_succ_eq_append_getElem hjP]
          generalize P[j] = l at hs htk
          have hlk := HLK.out l (List.mem_of_getElem? hs)
          have hrow := HJ.out.row
          rw [← HN.out] at hrow
          obtain ⟨gh, kh, hvh, _⟩ := hrow.form (by omega)
          simp only [Value.slice.injEq] at hvh
          obtain ⟨rfl, -, rfl⟩ := hvh
          obtain ⟨e1, e2⟩ := lkv_at P j l hs
          have m0 : wr.cell? ⟨gh, j * 2, none⟩ = some (.int .i64 l.kind) := by rw [hrow.cellAt _ (by omega)]; exact e1
          have m1 : wr.cell? ⟨gh, j * 2 + 1, none⟩ = some (.int .u64 l.h) := by rw [hrow.cellAt _ (by omega)]; exact e2
          obtain ⟨⟨F3, wv3, fv3, a1, a2, a3, a4, a5, a6⟩, hfx, _⟩ := HJ.out
          obtain ⟨w3, hw3⟩ : ∃ w3, w3 = wr.alloc (.cells #[.int .i64 l.kind, .int .u64 l.h] 67) := ⟨_, rfl⟩
          have hb3 : Below wr.heap.size wr w3 := by rw [hw3]; exact (Below.refl _ _).alloc (Nat.le_refl _) _
          have b1 := a1.fr (fp := fun _ => False) (F' := nw F3 wr.heap.size outL) (Fr.of_below hb3) (fun e => e) (fun _ _ e => e) (fun _ _ _ _ _ e => e) (fun _ hk => nw_lt hk)
          have b2 := a2.fr (fp := fun _ => False) (F' := nw F3 wr.heap.size outL) (Fr.of_below hb3) (fun _ _ _ e => e) (fun _ hk => nw_lt hk)
          have hwl := a6.len
          rw [(len_letg _ _).1] at hwl
          have hfl := (len_letg (P.take j) L2).2
          rw [List.length_take] at hfl
          have hlet := letGo_any b1 b2 a5 HTOP.out l hlk.2 hlk.1 (by have := HLEN.out; have := K10.out; omega) (by
            rw [List.length_append, List.length_append]
            have := K11.out
            have := HTOT.out
            omega)
          have HLET := hid hlet
          have HHJ := HJ
          have A3 := hid a3
          have A4 := hid a4
          have A5 := hid a5
          have A6 := hid a6
          have HFX := hid hfx
          have HB3 := hid hb3
          have HW3 := hid hw3
          have HTK := hid htk
          have HROW := hid hrow
          clear hs htk hlk hrow e1 e2 a1 a2 a3 a4 a5 a6 hfx hb3 b1 b2 hwl hfl hlet hw3 hjP HJ
          go_upto_region 6 with fail
          rw [← HW3.out]
          have cb0 : w3.cell? ⟨wr.heap.size, 0, none⟩ = some (.int .i64 l.kind) := by rw [HW3.out, cell_of_row _ _ 0 _ _ _ (heap_alloc_new _ _)]; rfl
          have cb1 : w3.cell? ⟨wr.heap.size, 1, none⟩ = some (.int .u64 l.h) := by rw [HW3.out, cell_of_row _ _ 1 _ _ _ (heap_alloc_new _ _)]; rfl
          clear m0 m1
          go_wp2_with fail
          refine HLET.out.mono ?_
          rintro e W4 ⟨⟨v, rfl⟩, F4, wv4, fv4, k1, k2, k3, k4⟩
          have hrow4 : W4.ownsRow 0 67 2 (.slice (some ⟨gh, 0, none⟩) N hc) N (lkv P) := by
            have h5 := (Fr.of_below (fp := fun _ => False) HB3.out).owns HROW.out (fun _ _ e => e)
            refine Fr.owns k4 h5 (fun k hk e => ?_)
            have hkl := (HROW.out.lt k hk).2
            rw [nw_lt hkl] at e
            exact e (A4.out k hk)
          have hLI : LetI W2 q p pa Sa2 AA2 F2 B top L2 gv2 (.slice (some ⟨gh, 0, none⟩) N hc) ws2 (gs ++ g1 ++ o.h :: o.inners) (fs ++ f1) P (j + 1) W4 := by
            have hsx := HFX.out.size
            have h3z := HB3.out.size
            refine ⟨⟨F4, wv4, fv4, ?_, ?_, fun k hk => ?_, fun k hk => ?_, ?_, ?_⟩, ?_, ?_⟩
            · rw [HTK.out, letg_app]; exact k1
            · rw [HTK.out, letg_app, ← List.append_assoc, ← List.append_assoc]; exact k2
            · rw [k3 k (by omega), nw_lt (by omega)]; exact A3.out k hk
            · have hkl := (HROW.out.lt k hk).2
              rw [k3 k (by omega), nw_lt hkl]; exact A4.out k hk
            · rw [HTK.out, letg_app]; exact (A5.out.let1 l).1
            · rw [HTK.out, letg_app, ← List.append_assoc]; exact A6.out.let1 A5.out l
            · refine FrF.trans (FrF.trans HFX.out (F1 := F3) (Fr.of_below HB3.out) A3.out) k4 (fun k hk => ?_)
              rw [nw_lt (by omega)]; exact A3.out k hk
            · rw [← HN.out]; exact hrow4
          have HLI := hid hLI
          clear k1 k2 k3 k4 hrow4 hLI cb0 cb1
          go_wp2
          go_roundw
          case rel => exact ⟨j + 1, by omega, by go_num, HLI⟩
          case measure => simp [intOf]; omega
        · obtain rfl : j = N := by omega
          clear hjl
          go_wp2
          go_roundg (L2.length)
          case measure => have := HLEN.out; have := K9.out; omega
          case rel =>
            have htk : P.take j = P := List.take_of_length_le (by rw [← HN.out]; exact Nat.le_refl _)
            obtain ⟨⟨F3, wv3, fv3, a1, a2, a3, a4, a5, a6⟩, hfx, _⟩ := HJ.out
            rw [htk] at a1 a2 a5 a6
            have hsx := hfx.size
            have h7 := D7.out.size
            have h1 := HF01.out.size
            have hwh : fnd L1 x = some o := by rw [← HE.out]; exact fnd_mem K3.out.nd HO.out
            have e2 : (awa L1 x).2.2 = x :: o.inners := by rw [awa_some hwh]
            have eP : (awa L1 x).2.1 = P := by rw [HP.out, HE.out]
            have eL : (awa L1 x).1 = L2 := by rw [HL2.out, HE.out]
            have ll := len_letg P L2
            have h8 := HLEN.out
            have h9 := K10.out
            have h10 := K11.out
            have h11 := HTOT.out
            refine ⟨⟨Sa2, AA2, nw F3 wr.heap.size outL, (letg L2 P).1, wv3, gv2, fv3, ws2 ++ (letg L2 P).2.1, g1 ++ (x :: o.inners), f1 ++ (letg L2 P).2.2, a1.cut, ?_, a5, a6, drr_more K5.out (by rw [← HE.out]; exact D3.out), fun L' g' f' hgo => ?_, fun k hk => ?_, fun k hk => nw_ge hk, ll.1, ?_, ?_⟩, ?_⟩
            · have := a2.cut
              rw [HE.out, List.append_assoc, List.append_assoc] at this
              exact this
            · have hc : Goes L1 (x :: ws2) L' ((awa L1 x).2.2 ++ g') ((letg (awa L1 x).1 (awa L1 x).2.1).2.2 ++ f') := .cons (by rw [eP, eL]; exact hgo)
              rw [e2, eP, eL] at hc
              have := K6.out _ _ _ hc
              rw [List.append_assoc, List.append_assoc]
              exact this
            · rw [nw_lt (by have := HSZ1.out; omega), a3 k (by omega), D6.out k (by omega)]; exact K7.out k hk
            · rw [List.length_append, List.length_cons, ll.1]; omega
            · rw [List.length_append, totl_letg]
              have := ll.2
              omega
            · refine FrF.trans HF01.out (FrF.trans D7.out hfx (fun k hk => D6.out k hk)) (fun k hk => K7.out k hk)
end
end Go.Proofs.Ytceokibalphgpaa
