/- HqR HqS in one -/
import Derived.Test.YtmkajdfajcodjaaHqK
import Derived.Test.YtmkajdfajcodjaaHqJ
import Derived.Deep.LoopGhost
import Derived.Deep.Cut
namespace Go.Proofs.Ytmkajdfajcodjaa
open Go

theorem WQ.nil (L : HL) : WQ L [] := ⟨by simp, by simp⟩
theorem WQ.ww {L : HL} {ws : List Int} (h : WQ L ws) (hn : Nd L) : WW L ws := fun x hx o ho e => by
  obtain ⟨p, hp, h1, h2, _⟩ := h.is x hx
  rw [ob_eq hn hp ho (e.trans h1.symm)]
  exact h2
theorem WQ.len {L : HL} {ws : List Int} (h : WQ L ws) : ws.length ≤ L.length := by
  have := nodup_len (m := L.map (·.h)) h.nd fun x hx => by
    obtain ⟨o, ho, e, _⟩ := h.is x hx
    exact List.mem_map.2 ⟨o, ho, e⟩
  simpa using this
theorem WQ.awa {top : Int} {L : HL} {x : Int} {ws : List Int} (h : WQ L (x :: ws)) (hi : HIn top L) : WQ (awa L x).1 ws := by
  obtain ⟨w, hw, h1, h2, _⟩ := h.is x (by simp)
  have hf : fnd L x = some w := by rw [← h1]; exact fnd_mem hi.nd hw
  have hnd := List.nodup_cons.1 h.nd
  rw [awa_some hf]
  refine ⟨hnd.2, fun y hy => ?_⟩
  obtain ⟨o, ho, e1, e2, e3⟩ := h.is y (List.mem_cons_of_mem _ hy)
  refine ⟨o, List.mem_filter.2 ⟨ho, ?_⟩, e1, e2, e3⟩
  have n1 : o.h ≠ x := fun e => hnd.1 (by rw [← e, e1]; exact hy)
  have n2 : o.h ∉ w.inners := fun hm => by
    obtain ⟨z, hz, f1, f2⟩ := hi.inn w hw _ hm
    rw [ob_eq hi.nd hz ho f1.symm, f2] at e2
    have := hi.nz w hw
    omega
  simp [n1, n2]
theorem WQ.let1 {top : Int} {L : HL} {ws : List Int} (h : WQ L ws) (hi : HIn top L) (l : Lk) : WQ (let1 L l).1 (ws ++ (let1 L l).2.1) := by
  by_cases k1 : l.kind = 1
  · obtain ⟨lk, lh⟩ := l
    simp only at k1
    subst k1
    cases hw : whl L lh with
    | none => rw [let1_none hw]; simpa using h
    | some x =>
      obtain ⟨hx, hx0⟩ := whl_some hi hw
      rw [let1_some hw]
      split
      · simpa using h
      · rename_i hc
        have hni : x.h ∉ ws := fun hm => by
          obtain ⟨o, ho, e1, _, e3⟩ := h.is _ hm
          rw [ob_eq hi.nd hx ho e1] at e3
          exact hc e3
        have hold : ∀ y ∈ ws, ∃ o ∈ setc L x.h (x.count - 1), o.h = y ∧ o.outer = 0 ∧ o.count = 0 := fun y hy => by
          obtain ⟨o, ho, e1, e2, e3⟩ := h.is y hy
          have : o.h ≠ x.h := fun e => hni (by rw [← e, e1]; exact hy)
          exact ⟨o, mem_setc.2 ⟨o, ho, by rw [if_neg this]⟩, e1, e2, e3⟩
        by_cases h1 : x.count = 1
        · simp only [h1, if_true]
          refine ⟨?_, fun y hy => ?_⟩
          · rw [List.nodup_append]
            exact ⟨h.nd, by simp, fun a ha b hb e => by simp at hb; subst hb; subst e; exact hni ha⟩
          · rcases List.mem_append.1 hy with hy | hy
            · have := hold y hy
              rw [h1] at this
              exact this
            · simp at hy
              subst hy
              exact ⟨_, mem_setc.2 ⟨x, hx, rfl⟩, by simp, by simp [hx0], by simp⟩
        · simp only [h1, if_false, List.append_nil]
          exact ⟨h.nd, hold⟩
  · by_cases k2 : l.kind = 2
    · obtain ⟨lk, lh⟩ := l
      simp only at k2
      subst k2
      rw [let1_for]
      simpa using h
    · rw [let1_oth k1 k2]; simpa using h
theorem letg_app : ∀ (L : HL) (P : List Lk) (l : Lk), letg L (P ++ [l]) = ((let1 (letg L P).1 l).1, (letg L P).2.1 ++ (let1 (letg L P).1 l).2.1, (letg L P).2.2 ++ (let1 (letg L P).1 l).2.2)
  | L, [], l => by simp [letg]
  | L, a :: P, l => by
    rw [List.cons_append]
    unfold letg
    rw [letg_app (let1 L a).1 P l]
    simp
def totl (L : HL) : Nat := (L.map fun o => o.links.length).sum
theorem totl_map {L : HL} (f : Ob → Ob) (hf : ∀ o, (f o).links.length = o.links.length) : totl (L.map f) = totl L := by
  unfold totl
  rw [List.map_map]
  congr 1
  exact List.map_congr_left fun o _ => hf o
theorem totl_let1 (L : HL) (l : Lk) : totl (let1 L l).1 = totl L := by
  unfold let1
  split
  · rfl
  · split
    · split
      · rfl
      · split
        · rfl
        · exact totl_map _ (fun o => by split <;> rfl)
    · rfl
theorem totl_letg : ∀ (P : List Lk) (L : HL), totl (letg L P).1 = totl L
  | [], _ => rfl
  | l :: r, L => by
    unfold letg
    rw [totl_letg r]
    exact totl_let1 L l
theorem len_let1 (L : HL) (l : Lk) : (let1 L l).1.length = L.length ∧ (let1 L l).2.2.length ≤ 1 := by
  unfold let1
  split
  · exact ⟨rfl, by simp⟩
  · split
    · split
      · exact ⟨rfl, by simp⟩
      · split
        · exact ⟨rfl, by simp⟩
        · exact ⟨by simp [setc], by simp⟩
    · exact ⟨rfl, by simp⟩
theorem len_letg : ∀ (P : List Lk) (L : HL), (letg L P).1.length = L.length ∧ (letg L P).2.2.length ≤ P.length
  | [], _ => ⟨rfl, by simp [letg]⟩
  | l :: r, L => by
    have h1 := len_letg r (let1 L l).1
    have h2 := len_let1 L l
    unfold letg
    refine ⟨h1.1.trans h2.1, ?_⟩
    simp only [List.length_append, List.length_cons]
    omega
theorem totl_drop {L : HL} (hn : Nd L) {o : Ob} (h : o ∈ L) : totl (L.filter fun x => !(x.h == o.h)) + o.links.length = totl L ∧ (L.filter fun x => !(x.h == o.h)).length + 1 = L.length := by
  induction L with
  | nil => cases h
  | cons a L ih =>
    have hn' : (a.h :: L.map (·.h)).Nodup := hn
    rw [List.nodup_cons] at hn'
    rcases List.mem_cons.1 h with rfl | h
    · have he : L.filter (fun x => !(x.h == o.h)) = L := List.filter_eq_self.2 fun x hx => by
        have : x.h ≠ o.h := fun e => hn'.1 (e ▸ List.mem_map.2 ⟨x, hx, rfl⟩)
        simpa using this
      rw [List.filter_cons_of_neg (by simp), he]
      simp [totl, Nat.add_comm]
    · have : a.h ≠ o.h := fun e => hn'.1 (e ▸ List.mem_map.2 ⟨o, h, rfl⟩)
      rw [List.filter_cons_of_pos (by simpa using this)]
      have := ih hn'.2 h
      simp only [totl, List.map_cons, List.sum_cons, List.length_cons] at this ⊢
      omega
theorem totl_rows : ∀ {L : HL}, Nd L → ∀ {hs : List Int}, hs.Nodup → (∀ h ∈ hs, ∃ o ∈ L, o.h = h) → totl (L.filter fun x => !(hs.contains x.h)) + (hs.flatMap (linksOf L)).length = totl L ∧ (L.filter fun x => !(hs.contains x.h)).length + hs.length = L.length := by
  intro L hn hs
  induction hs generalizing L with
  | nil => intro _ _; rw [List.filter_eq_self.2 (by simp)]; simp
  | cons a r ih =>
    intro hnd hex
    rw [List.nodup_cons] at hnd
    obtain ⟨o, ho, e⟩ := hex a (by simp)
    obtain ⟨d1, d2⟩ := totl_drop hn ho
    rw [e] at d1 d2
    have hn1 : Nd (L.filter fun x => !(x.h == a)) := hn.sublist (List.Sublist.map _ (List.filter_sublist ..))
    obtain ⟨i1, i2⟩ := ih hn1 hnd.2 fun h hh => by
      obtain ⟨p, hp, e2⟩ := hex h (List.mem_cons_of_mem _ hh)
      have : p.h ≠ a := fun k => hnd.1 (by rw [← k, e2]; exact hh)
      exact ⟨p, List.mem_filter.2 ⟨hp, by simpa using this⟩, e2⟩
    have ef : (L.filter fun x => !(x.h == a)).filter (fun x => !(r.contains x.h)) = L.filter fun x => !((a :: r).contains x.h) := by
      rw [List.filter_filter]
      refine List.filter_congr fun z _ => ?_
      rw [List.contains_cons]
      cases r.contains z.h <;> cases (z.h == a) <;> rfl
    rw [ef] at i1 i2
    have el : r.flatMap (linksOf (L.filter fun x => !(x.h == a))) = r.flatMap (linksOf L) := by
      have : ∀ y ∈ r, linksOf (L.filter fun x => !(x.h == a)) y = linksOf L y := fun y hy => by
        have hya : y ≠ a := fun k => hnd.1 (k ▸ hy)
        obtain ⟨p, hp, e2⟩ := hex y (List.mem_cons_of_mem _ hy)
        have h1 := fnd_mem hn hp
        have h2 := fnd_mem hn1 (List.mem_filter.2 ⟨hp, by rw [e2]; simpa using hya⟩ : p ∈ L.filter fun x => !(x.h == a))
        rw [e2] at h1 h2
        unfold linksOf
        rw [h1, h2]
      clear i1 i2 ih ef
      induction r with
      | nil => rfl
      | cons b r ihr =>
        rw [List.flatMap_cons, List.flatMap_cons, this b (by simp), ihr (by
          rw [List.nodup_cons] at hnd
          exact ⟨fun hm => hnd.1 (List.mem_cons_of_mem _ hm), hnd.2.2⟩) (fun h hh => hex h (by
            rcases List.mem_cons.1 hh with rfl | hh
            · simp
            · exact List.mem_cons_of_mem _ (List.mem_cons_of_mem _ hh))) (fun y hy => this y (List.mem_cons_of_mem _ hy))]
    rw [el] at i1
    have ea : linksOf L a = o.links := by
      have := fnd_mem hn ho
      rw [e] at this
      unfold linksOf
      rw [this]
    rw [List.flatMap_cons, List.length_append, List.length_cons, ea]
    omega
/-- What goes takes its links with it. -/
theorem awa_tot {top : Int} {L : HL} (hi : HIn top L) {x : Ob} (hx : x ∈ L) : totl (awa L x.h).1 + (awa L x.h).2.1.length = totl L ∧ (awa L x.h).1.length + 1 + x.inners.length = L.length := by
  have hf := fnd_mem hi.nd hx
  obtain ⟨h1, h2⟩ := totl_rows hi.nd (hs := x.h :: x.inners) (List.nodup_cons.2 ⟨hi.self hx, hi.idp x hx⟩) fun h hh => by
    rcases List.mem_cons.1 hh with rfl | hh
    · exact ⟨x, hx, rfl⟩
    · obtain ⟨o, ho, e, _⟩ := hi.inn x hx h hh
      exact ⟨o, ho, e⟩
  have e2 : (awa L x.h).1 = L.filter fun o => !((x.h :: x.inners).contains o.h) := by
    rw [awa_some hf]
    refine List.filter_congr fun y _ => ?_
    rw [List.contains_cons]
  rw [held_all hf, e2]
  rw [List.length_cons] at h2
  omega
theorem totl_le {top : Int} {L : HL} (hi : HIn top L) : totl L ≤ L.length * 8 := by
  have : ∀ o ∈ L, o.links.length ≤ 8 := fun o ho => (hi.lnk o ho).1
  clear hi
  induction L with
  | nil => simp [totl]
  | cons a L ih =>
    have h1 := this a (by simp)
    have h2 := ih fun o ho => this o (List.mem_cons_of_mem _ ho)
    simp only [totl, List.map_cons, List.sum_cons, List.length_cons] at h2 ⊢
    omega
end Go.Proofs.Ytmkajdfajcodjaa

namespace Go.Proofs.Ytmkajdfajcodjaa
open Go Go.ChangeShapes Go.WideShapes Go.ChangeAt Go.RowKit

section
variable {w : World} {q p pa : Nat} {Sa : Nat → Prop} {AA : Ar} {F : Nat → Lab} {B : Int → Nat} {top : Int} {L : HL} {wv gv fv : Value} {ws gs fs : List Int}
theorem drop_any (h : HpW w p pa Sa AA F B top L) (hs : SwW w q p F wv gv fv ws gs fs) (hi : HIn top L) {x : Ob} (hx : x ∈ L) (hx0 : x.outer = 0) (hg : gs.length + 1 + x.inners.length ≤ 1000000) (hF : ∀ k, w.heap.size ≤ k → F k = outL) :
    Calls Try.prog 67 #[.pointer (some ⟨q, 0, none⟩), .int .u64 x.h] w (DropPost w q p pa AA F B top L wv fv ws gs fs x) :=
  (callsIn_wide (n := 3)).1 (drop_in 3 (by omega) h hs hi hx hx0 hg hF)
theorem SwW.setw (h : SwW w q p F wv gv fv ws gs fs) {wv' : Value} {ws' : List Int} (hq : QRow w wv' ws') (hb : wv'.ownBlock = wv.ownBlock) : SwW (w.setCell ⟨q, 1, none⟩ wv') q p F wv' gv fv ws' gs fs := by
  have hnw : ∀ {v : Value} {j : Nat}, (∀ k, v.ownBlock = some k → F k = (-2, j + 1)) → v.ownBlock ≠ some q := fun hv e => by
    have := hv _ e
    rw [h.lq] at this
    cases this
  have hw' : ∀ k, wv'.ownBlock = some k → F k = (-2, 1) := fun k hk => h.lw k (by rw [← hb]; exact hk)
  exact ⟨by rw [heap_setCell_same _ _ _ _ _ _ h.hq]; rfl, hq.set _ _ (hnw (j := 0) hw'), ownsRow_setCell_other h.hg (hnw (j := 1) h.lg) _, ownsRow_setCell_other h.hf (hnw (j := 2) h.lf) _, h.lq, hw', h.lg, h.lf⟩
end
theorem exec_tail {o : Oper} {f : Operand → Value} {W : World} {p l : Operand} {b oo o2 n cap : Nat} (ho : o.op = .slice 43 p (some l) none none) (hp : f p = .slice (some ⟨b, oo, none⟩) n cap) (hl : f l = .int .i64 1) (h1 : 1 ≤ n) (h2 : cap = 1 ∧ o2 = oo ∨ ¬ cap = 1 ∧ o2 = oo + 1) (_h3 : n ≤ cap) :
    (execOp f o).run Try.prog W = .ok (.value (.slice (some ⟨b, o2, none⟩) (n - 1) (cap - 1))) W := by
  unfold execOp
  simp only [ho, hp]
  simp only [Option.map, hl]
  rcases h2 with ⟨h3, rfl⟩ | ⟨h3, rfl⟩
  · go_simp
    intro h4
    omega
  · go_simp
    intro h4
    omega
/-- What is left to go, in memory. -/
structure RunI (w : World) (q p pa : Nat) (AA : Ar) (F : Nat → Lab) (B : Int → Nat) (top : Int) (L0 : HL) (ws0 gs fs : List Int) (m : Nat) (W : World) : Prop where
  ex : ∃ Sa1 AA1 F1 L wv gv fv ws g f, HpW W p pa Sa1 AA1 F1 B top L ∧ SwW W q p F1 wv gv fv ws (gs ++ g) (fs ++ f) ∧ HIn top L ∧ WQ L ws ∧ DrR (er AA) g (er AA1) ∧ (∀ L' g' f', Goes L ws L' g' f' → Goes L0 ws0 L' (g ++ g') (f ++ f')) ∧
    (∀ k, k < w.heap.size → F1 k = F k) ∧ (∀ k, W.heap.size ≤ k → F1 k = outL) ∧ L.length = m ∧ gs.length + g.length + L.length ≤ 100000 ∧ fs.length + f.length + totl L ≤ 1000000
  fr : FrF F w W
/-- Between two links. -/
structure LetI (w : World) (q p pa : Nat) (Sa : Nat → Prop) (AA : Ar) (F : Nat → Lab) (B : Int → Nat) (top : Int) (L : HL) (gv vh : Value) (ws gs fs : List Int) (P : List Lk) (j : Nat) (W : World) : Prop where
  ex : ∃ F1 wv fv, HpW W p pa Sa AA F1 B top (letg L (P.take j)).1 ∧ SwW W q p F1 wv gv fv (ws ++ (letg L (P.take j)).2.1) gs (fs ++ (letg L (P.take j)).2.2) ∧ (∀ k, k < w.heap.size → F1 k = F k) ∧ (∀ k, vh.ownBlock = some k → F1 k = outL) ∧ HIn top (letg L (P.take j)).1 ∧ WQ (letg L (P.take j)).1 (ws ++ (letg L (P.take j)).2.1)
  fr : FrF F w W
  row : W.ownsRow 0 67 2 vh P.length (lkv P)
def RunPost (w : World) (q p pa : Nat) (AA : Ar) (F : Nat → Lab) (B : Int → Nat) (top : Int) (L0 : HL) (ws0 gs fs : List Int) (e : Ending) (w' : World) : Prop :=
  (∃ v, e = .returned v) ∧ ∃ Lf g f Sa1 AA1 F1 wv gv fv, Goes L0 ws0 Lf g f ∧ HpW w' p pa Sa1 AA1 F1 B top Lf ∧ SwW w' q p F1 wv gv fv [] (gs ++ g) (fs ++ f) ∧ DrR (er AA) g (er AA1) ∧ (∀ k, k < w.heap.size → F1 k = F k) ∧ FrF F w w'
section
variable {w : World} {q p pa : Nat} {Sa : Nat → Prop} {AA : Ar} {F : Nat → Lab} {B : Int → Nat} {top : Int} {L : HL} {wv gv fv : Value} {ws gs fs : List Int}
theorem HpW.cut (h : HpW w p pa Sa AA F B top L) : HpW w p pa Sa AA (nw F w.heap.size outL) B top L := h.relab (fun _ hk => nw_lt hk)
theorem SwW.cut (h : SwW w q p F wv gv fv ws gs fs) : SwW w q p (nw F w.heap.size outL) wv gv fv ws gs fs := h.relab (fun _ hk => nw_lt hk)
set_option maxRecDepth 100000 in
set_option maxHeartbeats 4000000 in
theorem run_any (h : HpW w p pa Sa AA F B top L) (hs : SwW w q p F wv gv fv ws gs fs) (hi : HIn top L) (hw : WQ L ws) (htop : top ≤ 4294967295) (hg : gs.length + L.length ≤ 100000) (hf : fs.length + totl L ≤ 1000000) :
    Calls Try.prog 53 #[.pointer (some ⟨q, 0, none⟩)] w (RunPost w q p pa AA F B top L ws gs fs) := by
  have hR0 : RunI w q p pa AA F B top L ws gs fs L.length w :=
    ⟨⟨Sa, AA, nw F w.heap.size outL, L, wv, gv, fv, ws, [], [], h.cut, by simpa using hs.cut, hi, hw, .nil _, fun _ _ _ h => by simpa using h, fun k hk => nw_lt hk, fun k hk => nw_ge hk, rfl, by simpa using hg, by simpa using hf⟩, FrF.refl _ _⟩
  have HR0 := hid hR0
  have HTOP := hid htop
  clear hR0 h hs hi hw hg hf htop
  go_enter Try.func53, Try.ntmps53
  go_wp2_with fail
  go_loopg [] (L.length) (fun k wr => RowKit.Hid (RunI w q p pa AA F B top L ws gs fs k wr))
  case atStart => exact HR0
  case round =>
    obtain ⟨⟨Sa1, AA1, F1, L1, wv1, gv1, fv1, ws1, g1, f1, k1, k2, k3, k4, k5, k6, k7, k8, k9, k10, k11⟩, hfr⟩ := hrel.out
    have c1 := k2.c1
    have z1 := k2.fz 1
    cases ws1 with
    | nil =>
      obtain ⟨a, c, rfl, _⟩ := k2.hw.form
      have K1 := hid k1
      have K2 := hid k2
      have K5 := hid k5
      have K6 := hid k6
      have K7 := hid k7
      have HFR := hid hfr
      clear k1 k2 k3 k4 k5 k6 k7 k8 k9 k10 k11 hfr hrel
      simp only [List.length_nil] at c1
      go_wp2
      go_end0
      refine ⟨⟨_, rfl⟩, L1, g1, f1, Sa1, AA1, F1, _, gv1, fv1, ?_, K1.out, K2.out, K5.out, K7.out, HFR.out⟩
      simpa using K6.out L1 [] [] (.nil _)
    | cons x ws2 =>
      obtain ⟨o, ho, he, ho0, hoc⟩ := k4.is x (by simp)
      rcases k2.hw with ⟨_, e⟩ | ⟨gb, off, cap, cur, hwv, q1, q2, q3, q4, q5⟩
      · cases e
      subst hwv
      simp only [List.length_cons] at c1 q2
      have cx : wr.cell? ⟨gb, off, none⟩ = some (.int .u64 x) := by
        rw [cell_of_row wr gb off _ _ _ q1]
        have := q5 0 x rfl
        simpa using this
      obtain ⟨o2, ho2⟩ : ∃ o2, cap = 1 ∧ o2 = off ∨ ¬ cap = 1 ∧ o2 = off + 1 := by
        by_cases e : cap = 1
        · exact ⟨off, .inl ⟨e, rfl⟩⟩
        · exact ⟨off + 1, .inr ⟨e, rfl⟩⟩
      have hQ : QRow wr (.slice (some ⟨gb, o2, none⟩) ws2.length (cap - 1)) ws2 := by
        refine .inr ⟨gb, o2, cap - 1, cur, rfl, q1, by omega, by omega, by omega, fun j y hj => ?_⟩
        have hlt := (List.getElem?_eq_some_iff.1 hj).1
        have h5 := q5 (j + 1) y (by simpa using hj)
        rw [show o2 + j = off + (j + 1) by omega]
        exact h5
      have hs1 := k2.setw hQ rfl
      have hfr1 : Fr (fun k => k = q) wr (wr.setCell ⟨q, 1, none⟩ (.slice (some ⟨gb, o2, none⟩) ws2.length (cap - 1))) := (Fr.refl _ _).setCell _ _ (fun _ => rfl)
      have hp1 := k1.low hfr1 (fun k e => by rw [e, k2.lq]; simp) (fun _ _ => rfl)
      have hf01 : FrF F w (wr.setCell ⟨q, 1, none⟩ (.slice (some ⟨gb, o2, none⟩) ws2.length (cap - 1))) := FrF.trans hfr (hfr1.mono (fp2 := fun k => F1 k ≠ outL) (fun k e _ => by rw [e, k2.lq]; simp [outL])) k7
      obtain ⟨W1, hW1⟩ : ∃ W1, W1 = wr.setCell ⟨q, 1, none⟩ (.slice (some ⟨gb, o2, none⟩) ws2.length (cap - 1)) := ⟨_, rfl⟩
      rw [← hW1] at hs1 hp1 hf01
      have hsz1 : W1.heap.size = wr.heap.size := by rw [hW1]; simp
      obtain ⟨htot, hlen⟩ := awa_tot k3 ho
      have hdrop := drop_any hp1 hs1 k3 ho ho0 (by rw [List.length_append]; omega) (fun k hk => k8 k (by omega))
      have hi2 := k3.awa o.h (fun y hy e => by rw [ob_eq k3.nd ho hy e]; exact ho0)
      have hw2 := WQ.awa k4 k3
      rw [← he] at hw2
      rw [he] at hdrop
      have HDROP := hid hdrop
      have HW1 := hid hW1
      have HI2 := hid hi2
      have HWQ2 := hid hw2
      have HTOT := hid htot
      have HLEN := hid hlen
      have K3 := hid k3
      have K5 := hid k5
      have K6 := hid k6
      have K7 := hid k7
      have K9 := hid k9
      have K10 := hid k10
      have K11 := hid k11
      have HO := hid ho
      have HE := hid he
      have HF01 := hid hf01
      have HSZ1 := hid hsz1
      clear k1 k2 k3 k4 k5 k6 k7 k8 k9 k10 k11 hfr hrel hdrop hW1 hi2 hw2 htot hlen ho he ho0 hoc q1 q3 q4 q5 hQ hs1 hfr1 hp1 hf01 hsz1
      generalize ws2.length = n2 at *
      go_upto_region 3 with ((with_reducible refine at_op ⟨some 22, _, _, _, _, _⟩ ?_); go_loud (refine wpList_run rfl _ (exec_tail rfl rfl rfl (by omega) ho2 q2) ?_; rw [show n2 + 1 - 1 = n2 from rfl]))
      rw [← HW1.out]
      clear c1 z1 cx q2
      go_wp2_with fail
      refine HDROP.out.mono ?_
      rintro e W2 ⟨vh, rfl, Sa2, AA2, F2, gv2, d1, d2, d3, d4, d5, d6, d7⟩
      obtain ⟨ha, hc, rfl⟩ := own_form d4
      have hW12 : W1.heap.size ≤ W2.heap.size := d7.size
      have L0 : LetI W2 q p pa Sa2 AA2 F2 B top (awa L1 o.h).1 gv2 (.slice ha (awa L1 o.h).2.1.length hc) ws2 (gs ++ g1 ++ o.h :: o.inners) (fs ++ f1) (awa L1 o.h).2.1 0 W2 := by
        refine ⟨⟨F2, .slice (some ⟨gb, o2, none⟩) n2 (cap - 1), fv1, ?_, ?_, fun _ _ => rfl, d5, ?_, ?_⟩, FrF.refl _ _, d4⟩
        · simpa [letg] using d1
        · simpa [letg] using d2
        · simpa [letg] using HI2.out
        · simpa [letg] using HWQ2.out
      have HL0 := hid L0
      have D3 := hid d3
      have D6 := hid d6
      have D7 := hid d7
      have HW12 := hid hW12
      obtain ⟨P, hP⟩ : ∃ P, P = (awa L1 o.h).2.1 := ⟨_, rfl⟩
      obtain ⟨L2, hL2⟩ : ∃ L2, L2 = (awa L1 o.h).1 := ⟨_, rfl⟩
      rw [← hP, ← hL2] at HL0 HTOT
      rw [← hL2] at HI2 HLEN
      rw [← hP]
      obtain ⟨N, hN⟩ : ∃ N, N = P.length := ⟨_, rfl⟩
      have hlinks : ∀ l ∈ P, Nm l.kind ∧ Hn l.h := by
        intro l hl
        rw [hP, held_all (fnd_mem K3.out.nd HO.out)] at hl
        obtain ⟨y, _, hy⟩ := List.mem_flatMap.1 hl
        unfold linksOf at hy
        cases hf : fnd L1 y with
        | none => rw [hf] at hy; cases hy
        | some z =>
          rw [hf] at hy
          exact (K3.out.lnk z (fnd_some hf).1).2 l hy
      have hNb : N ≤ 1000000 := by have := HTOT.out; have := K11.out; omega
      have HP := hid hP
      have HL2 := hid hL2
      have HN := hid hN
      have HLK := hid hlinks
      rw [← hN]
      rw [← hN] at HL0
      clear d1 d2 d3 d4 d5 d6 d7 L0 hP hL2 hN hlinks hW12
      go_wp2
      go_loopw [29] (fun i wx => ∃ j : Nat, j ≤ N ∧ i = .int .i64 j ∧ RowKit.Hid (LetI W2 q p pa Sa2 AA2 F2 B top L2 gv2 (.slice ha N hc) ws2 (gs ++ g1 ++ o.h :: o.inners) (fs ++ f1) P j wx)) (fun i _ => N - (intOf i).toNat)
      case atStart => exact ⟨0, Nat.zero_le _, rfl, HL0⟩
      case round =>
        obtain ⟨j, hj, rfl, HJ⟩ := hrel
        by_cases hjl : j < N
        · have hjP : j < P.length := by rw [← HN.out]; exact hjl
          have hs : P[j]? = some P[j] := List.getElem?_eq_getElem hjP
          have htk : P.take (j + 1) = P.take j ++ [P[j]] := by rw [List.take_succ_eq_append_getElem hjP]
          generalize P[j] = l at hs htk
          have hlk := HLK.out l (List.mem_of_getElem? hs)
          have hrow := HJ.out.row
          rw [← HN.out] at hrow
          obtain ⟨gh, kh, hvh, _⟩ := hrow.form (by omega)
          simp only [Value.slice.injEq] at hvh
          obtain ⟨rfl, -, rfl⟩ := hvh
          obtain ⟨e1, e2⟩ := lkv_at P j l hs
          have m0 : wr.cell? ⟨gh, j * 2, none⟩ = some (.int .i64 l.kind) := by rw [hrow.cellAt _ (by omega)]; exact e1
          have m1 : wr.cell? ⟨gh, j * 2 + 1, none⟩ = some (.int .u64 l.h) := by rw [hrow.cellAt _ (by omega)]; exact e2
          obtain ⟨⟨F3, wv3, fv3, a1, a2, a3, a4, a5, a6⟩, hfx, _⟩ := HJ.out
          obtain ⟨w3, hw3⟩ : ∃ w3, w3 = wr.alloc (.cells #[.int .i64 l.kind, .int .u64 l.h] 67) := ⟨_, rfl⟩
          have hb3 : Below wr.heap.size wr w3 := by rw [hw3]; exact (Below.refl _ _).alloc (Nat.le_refl _) _
          have b1 := a1.fr (fp := fun _ => False) (F' := nw F3 wr.heap.size outL) (Fr.of_below hb3) (fun e => e) (fun _ _ e => e) (fun _ _ _ _ _ e => e) (fun _ hk => nw_lt hk)
          have b2 := a2.fr (fp := fun _ => False) (F' := nw F3 wr.heap.size outL) (Fr.of_below hb3) (fun _ _ _ e => e) (fun _ hk => nw_lt hk)
          have hwl := a6.len
          rw [(len_letg _ _).1] at hwl
          have hfl := (len_letg (P.take j) L2).2
          rw [List.length_take] at hfl
          have hlet := letGo_any b1 b2 a5 HTOP.out l hlk.2 hlk.1 (by have := HLEN.out; have := K10.out; omega) (by
            rw [List.length_append, List.length_append]
            have := K11.out
            have := HTOT.out
            omega)
          have HLET := hid hlet
          have HHJ := HJ
          have A3 := hid a3
          have A4 := hid a4
          have A5 := hid a5
          have A6 := hid a6
          have HFX := hid hfx
          have HB3 := hid hb3
          have HW3 := hid hw3
          have HTK := hid htk
          have HROW := hid hrow
          clear hs htk hlk hrow e1 e2 a1 a2 a3 a4 a5 a6 hfx hb3 b1 b2 hwl hfl hlet hw3 hjP HJ
          go_upto_region 6 with fail
          rw [← HW3.out]
          have cb0 : w3.cell? ⟨wr.heap.size, 0, none⟩ = some (.int .i64 l.kind) := by rw [HW3.out, cell_of_row _ _ 0 _ _ _ (heap_alloc_new _ _)]; rfl
          have cb1 : w3.cell? ⟨wr.heap.size, 1, none⟩ = some (.int .u64 l.h) := by rw [HW3.out, cell_of_row _ _ 1 _ _ _ (heap_alloc_new _ _)]; rfl
          clear m0 m1
          go_wp2_with fail
          refine HLET.out.mono ?_
          rintro e W4 ⟨⟨v, rfl⟩, F4, wv4, fv4, k1, k2, k3, k4⟩
          have hrow4 : W4.ownsRow 0 67 2 (.slice (some ⟨gh, 0, none⟩) N hc) N (lkv P) := by
            have h5 := (Fr.of_below (fp := fun _ => False) HB3.out).owns HROW.out (fun _ _ e => e)
            refine Fr.owns k4 h5 (fun k hk e => ?_)
            have hkl := (HROW.out.lt k hk).2
            rw [nw_lt hkl] at e
            exact e (A4.out k hk)
          have hLI : LetI W2 q p pa Sa2 AA2 F2 B top L2 gv2 (.slice (some ⟨gh, 0, none⟩) N hc) ws2 (gs ++ g1 ++ o.h :: o.inners) (fs ++ f1) P (j + 1) W4 := by
            have hsx := HFX.out.size
            have h3z := HB3.out.size
            refine ⟨⟨F4, wv4, fv4, ?_, ?_, fun k hk => ?_, fun k hk => ?_, ?_, ?_⟩, ?_, ?_⟩
            · rw [HTK.out, letg_app]; exact k1
            · rw [HTK.out, letg_app, ← List.append_assoc, ← List.append_assoc]; exact k2
            · rw [k3 k (by omega), nw_lt (by omega)]; exact A3.out k hk
            · have hkl := (HROW.out.lt k hk).2
              rw [k3 k (by omega), nw_lt hkl]; exact A4.out k hk
            · rw [HTK.out, letg_app]; exact (A5.out.let1 l).1
            · rw [HTK.out, letg_app, ← List.append_assoc]; exact A6.out.let1 A5.out l
            · refine FrF.trans (FrF.trans HFX.out (F1 := F3) (Fr.of_below HB3.out) A3.out) k4 (fun k hk => ?_)
              rw [nw_lt (by omega)]; exact A3.out k hk
            · rw [← HN.out]; exact hrow4
          have HLI := hid hLI
          clear k1 k2 k3 k4 hrow4 hLI cb0 cb1
          go_wp2
          go_roundw
          case rel => exact ⟨j + 1, by omega, by go_num, HLI⟩
          case measure => simp [intOf]; omega
        · obtain rfl : j = N := by omega
          clear hjl
          go_wp2
          go_roundg (L2.length)
          case measure => have := HLEN.out; have := K9.out; omega
          case rel =>
            have htk : P.take j = P := List.take_of_length_le (by rw [← HN.out]; exact Nat.le_refl _)
            obtain ⟨⟨F3, wv3, fv3, a1, a2, a3, a4, a5, a6⟩, hfx, _⟩ := HJ.out
            rw [htk] at a1 a2 a5 a6
            have hsx := hfx.size
            have h7 := D7.out.size
            have h1 := HF01.out.size
            have hwh : fnd L1 x = some o := by rw [← HE.out]; exact fnd_mem K3.out.nd HO.out
            have e2 : (awa L1 x).2.2 = x :: o.inners := by rw [awa_some hwh]
            have eP : (awa L1 x).2.1 = P := by rw [HP.out, HE.out]
            have eL : (awa L1 x).1 = L2 := by rw [HL2.out, HE.out]
            have ll := len_letg P L2
            have h8 := HLEN.out
            have h9 := K10.out
            have h10 := K11.out
            have h11 := HTOT.out
            refine ⟨⟨Sa2, AA2, nw F3 wr.heap.size outL, (letg L2 P).1, wv3, gv2, fv3, ws2 ++ (letg L2 P).2.1, g1 ++ (x :: o.inners), f1 ++ (letg L2 P).2.2, a1.cut, ?_, a5, a6, drr_more K5.out (by rw [← HE.out]; exact D3.out), fun L' g' f' hgo => ?_, fun k hk => ?_, fun k hk => nw_ge hk, ll.1, ?_, ?_⟩, ?_⟩
            · have := a2.cut
              rw [HE.out, List.append_assoc, List.append_assoc] at this
              exact this
            · have hc : Goes L1 (x :: ws2) L' ((awa L1 x).2.2 ++ g') ((letg (awa L1 x).1 (awa L1 x).2.1).2.2 ++ f') := .cons (by rw [eP, eL]; exact hgo)
              rw [e2, eP, eL] at hc
              have := K6.out _ _ _ hc
              rw [List.append_assoc, List.append_assoc]
              exact this
            · rw [nw_lt (by have := HSZ1.out; omega), a3 k (by omega), D6.out k (by omega)]; exact K7.out k hk
            · rw [List.length_append, List.length_cons, ll.1]; omega
            · rw [List.length_append, totl_letg]
              have := ll.2
              omega
            · refine FrF.trans HF01.out (FrF.trans D7.out hfx (fun k hk => D6.out k hk)) (fun k hk => K7.out k hk)
end
end Go.Proofs.Ytmkajdfajcodjaa
