/- WkRa WkRb WkRc WkRd in one -/
import Derived.Test.YtmampaglemleoabRaD
import Derived.Test.YtmampaglemleoabWkN
import Derived.Test.YtmampaglemleoabHpR
import Derived.Test.YtmampaglemleoabMixD
namespace Go.Proofs.Ytmampaglemleoab
open Go Go.ChangeShapes Go.WideShapes Go.ChangeAt Go.RowKit

def Bl.cells (b : Bl) : List Value := [.int .u64 b.h, .int .u64 b.t, .bool b.dead, .int .u32 b.n]
def blv (L : WL) : List Value := L.flatMap Bl.cells
theorem blv_len (L : WL) : (blv L).length = L.length * 4 := by
  induction L with
  | nil => rfl
  | cons s L ih => simp only [blv, List.flatMap_cons, List.length_append, List.length_cons] at ih ⊢; rw [ih]; simp only [Bl.cells, List.length_cons, List.length_nil]; omega
theorem blv_app (L M : WL) : blv (L ++ M) = blv L ++ blv M := by simp [blv]
theorem blv_at (L : WL) (i j : Nat) (s : Bl) (h : L[i]? = some s) (hj : j < 4) : (blv L)[i * 4 + j]? = s.cells[j]? := by
  induction L generalizing i with
  | nil => simp at h
  | cons a L ih =>
    have e : blv (a :: L) = a.cells ++ blv L := by simp [blv]
    rw [e]
    cases i with
    | zero =>
      simp at h; subst h
      rw [List.getElem?_append_left (by simp [Bl.cells]; omega)]; simp
    | succ i =>
      simp at h
      rw [List.getElem?_append_right (by simp [Bl.cells]; omega)]
      have : (i + 1) * 4 + j - a.cells.length = i * 4 + j := by simp [Bl.cells]; omega
      rw [this]; exact ih i h
theorem blv_set (L : WL) (i j : Nat) (s s' : Bl) (v : Value) (h : L[i]? = some s) (hj : j < 4) (hs : s.cells.set j v = s'.cells) : (blv L).set (i * 4 + j) v = blv (L.set i s') := by
  induction L generalizing i with
  | nil => simp at h
  | cons a L ih =>
    have e : blv (a :: L) = a.cells ++ blv L := by simp [blv]
    rw [e]
    cases i with
    | zero =>
      simp at h; subst h
      rw [List.set_append_left _ _ (by simp [Bl.cells]; omega)]
      simp only [List.set_cons_zero]
      have e2 : blv (s' :: L) = s'.cells ++ blv L := by simp [blv]
      rw [e2]; congr 1; simpa using hs
    | succ i =>
      simp at h
      rw [List.set_append_right _ _ (by simp [Bl.cells]; omega)]
      have : (i + 1) * 4 + j - a.cells.length = i * 4 + j := by simp [Bl.cells]; omega
      rw [this, ih i h]
      simp [blv]
theorem blv_one (L : WL) : ∀ u ∈ blv L, u.oneCell' = true := fun u hu => by
  obtain ⟨s, _, hs⟩ := List.mem_flatMap.1 hu
  simp [Bl.cells] at hs
  rcases hs with rfl | rfl | rfl | rfl <;> rfl
/-- The list's one at a place. -/
theorem setn_at {L : WL} (hn : (L.map (·.h)).Nodup) {i : Nat} {b : Bl} (hb : L[i]? = some b) (n : Int) : setn L b.h n = L.set i { b with n := n } := by
  induction L generalizing i with
  | nil => simp at hb
  | cons c L ih =>
    rw [List.map_cons, List.nodup_cons] at hn
    have hk : setn (c :: L) b.h n = (if c.h = b.h then { c with n := n } else c) :: setn L b.h n := rfl
    rw [hk]
    cases i with
    | zero =>
      simp at hb
      subst hb
      rw [if_pos rfl, List.set_cons_zero]
      congr 1
      unfold setn
      refine (List.map_congr_left fun o ho => ?_).trans (List.map_id _)
      rw [if_neg (fun e => hn.1 (List.mem_map.2 ⟨o, ho, e⟩))]
      rfl
    | succ i =>
      simp at hb
      rw [if_neg (fun e => hn.1 (List.mem_map.2 ⟨b, List.mem_of_getElem? hb, e.symm⟩)), ih hn.2 hb, List.set_cons_succ]
theorem kill_at {L : WL} (hn : (L.map (·.h)).Nodup) {i : Nat} {b : Bl} (hb : L[i]? = some b) : kill L b.h = L.set i { b with dead := true } := by
  induction L generalizing i with
  | nil => simp at hb
  | cons c L ih =>
    rw [List.map_cons, List.nodup_cons] at hn
    have hk : kill (c :: L) b.h = (if c.h = b.h then { c with dead := true } else c) :: kill L b.h := rfl
    rw [hk]
    cases i with
    | zero =>
      simp at hb
      subst hb
      rw [if_pos rfl, List.set_cons_zero]
      congr 1
      unfold kill
      refine (List.map_congr_left fun o ho => ?_).trans (List.map_id _)
      rw [if_neg (fun e => hn.1 (List.mem_map.2 ⟨o, ho, e⟩))]
      rfl
    | succ i =>
      simp at hb
      rw [if_neg (fun e => hn.1 (List.mem_map.2 ⟨b, List.mem_of_getElem? hb, e.symm⟩)), ih hn.2 hb, List.set_cons_succ]
theorem cutb_at {L : WL} (hn : (L.map (·.h)).Nodup) {i : Nat} {b : Bl} (hb : L[i]? = some b) : cutb L b.h = L.take i ++ L.drop (i + 1) := by
  induction L generalizing i with
  | nil => simp at hb
  | cons c L ih =>
    rw [List.map_cons, List.nodup_cons] at hn
    unfold cutb at *
    rw [List.filter_cons]
    cases i with
    | zero =>
      simp at hb
      subst hb
      simp only [beq_self_eq_true, Bool.not_true, Bool.false_eq_true, if_false, List.take_zero, List.nil_append, List.drop_succ_cons, List.drop_zero]
      refine List.filter_eq_self.2 fun o ho => ?_
      have : o.h ≠ c.h := fun e => hn.1 (List.mem_map.2 ⟨o, ho, e⟩)
      simpa using this
    | succ i =>
      simp at hb
      have : c.h ≠ b.h := fun e => hn.1 (List.mem_map.2 ⟨b, List.mem_of_getElem? hb, e.symm⟩)
      rw [if_pos (by simpa using this), ih hn.2 hb]
      simp
/-- The twin in memory. -/
structure TwW (w : World) (p pa : Nat) (Sa : Nat → Prop) (A : Ar) (L : WL) (lv : Value) : Prop where
  hp : w.heap[p]? = some (.cells #[.pointer (some ⟨pa, 0, none⟩), lv] 42 (0, 0))
  ar : RInS Sa w pa A
  lr : w.ownsRow 0 50 4 lv L.length (blv L)
  d1 : ¬ Sa p
  d2 : lv.ownBlock ≠ some p
  d3 : ∀ k, lv.ownBlock = some k → ¬ Sa k
section
variable {w w' : World} {p pa : Nat} {Sa : Nat → Prop} {A : Ar} {L : WL} {v : Value} {fp : Nat → Prop}
theorem TwW.c0 (h : TwW w p pa Sa A L v) : w.cell? ⟨p, 0, none⟩ = some (.pointer (some ⟨pa, 0, none⟩)) := by rw [cell_of_row w p 0 _ _ _ h.hp]; rfl
theorem TwW.c1 (h : TwW w p pa Sa A L v) : w.cell? ⟨p, 1, none⟩ = some v := by rw [cell_of_row w p 1 _ _ _ h.hp]; rfl
theorem TwW.fz (h : TwW w p pa Sa A L v) (k : Nat) : w.frozen? ⟨p, k, none⟩ = false := frozen_of_row w p k _ _ h.hp
theorem TwW.lt (h : TwW w p pa Sa A L v) : p < w.heap.size := (Array.getElem?_eq_some_iff.1 h.hp).1
theorem TwW.shape (h : TwW w p pa Sa A L v) : ∃ a k, v = .slice a L.length k := own_form h.lr
theorem TwW.fr (h : TwW w p pa Sa A L v) (hf : Fr fp w w') (h1 : ¬ fp p) (h2 : ∀ k, Sa k → ¬ fp k) (h3 : ∀ k, v.ownBlock = some k → ¬ fp k) : TwW w' p pa Sa A L v :=
  ⟨by rw [hf.block p h.lt h1]; exact h.hp, h.ar.fr hf h2, hf.owns h.lr h3, h.d1, h.d2, h.d3⟩
theorem TwW.no (h : TwW w p pa Sa A L v) (hf : Fr (fun _ => False) w w') : TwW w' p pa Sa A L v := h.fr hf (fun e => e) (fun _ _ e => e) (fun _ _ e => e)
theorem TwW.form (h : TwW w p pa Sa A L v) {i : Nat} {s : Bl} (hs : L[i]? = some s) : ∃ g k, v = .slice (some ⟨g, 0, none⟩) L.length k := by
  have hlt : i < L.length := (List.getElem?_eq_some_iff.1 hs).1
  obtain ⟨g, k, h1, _⟩ := h.lr.form (by omega)
  exact ⟨g, k, h1⟩
theorem TwW.at (h : TwW w p pa Sa A L v) {i g k : Nat} {s : Bl} (hs : L[i]? = some s) (hv : v = .slice (some ⟨g, 0, none⟩) L.length k) (j : Nat) (hj : j < 4) : w.cell? ⟨g, i * 4 + j, none⟩ = s.cells[j]? := by
  have hlt : i < L.length := (List.getElem?_eq_some_iff.1 hs).1
  have hc := h.lr
  subst hv
  rw [hc.cellAt (i * 4 + j) (by omega), blv_at _ _ _ _ hs hj]
theorem TwW.fl (h : TwW w p pa Sa A L v) {g n k : Nat} (hv : v = .slice (some ⟨g, 0, none⟩) n k) (j : Nat) : w.frozen? ⟨g, j, none⟩ = false := by
  have hc := h.lr
  subst hv
  obtain ⟨a, c, e⟩ := own_form hc
  cases e
  exact hc.frozenAt j
/-- One of the list turns. -/
theorem TwW.setL {g n k : Nat} (h : TwW w p pa Sa A L (.slice (some ⟨g, 0, none⟩) n k)) (hn : L.length = n) {i : Nat} {s s' : Bl} (hs : L[i]? = some s) (j : Nat) (u : Value) (hj : j < 4) (hv : s.cells.set j u = s'.cells) :
    TwW (w.setCell ⟨g, i * 4 + j, none⟩ u) p pa Sa A (L.set i s') (.slice (some ⟨g, 0, none⟩) n k) ∧ Fr (fun q => q = g) w (w.setCell ⟨g, i * 4 + j, none⟩ u) := by
  have hf : Fr (fun q => q = g) w (w.setCell ⟨g, i * 4 + j, none⟩ u) := (Fr.refl _ _).setCell _ _ (fun _ => rfl)
  have hgp : g ≠ p := fun e => h.d2 (by rw [e]; rfl)
  refine ⟨⟨by rw [hf.block p h.lt (fun e => hgp e.symm)]; exact h.hp, h.ar.fr hf (fun q hq e => h.d3 g rfl (e ▸ hq)), ?_, h.d1, h.d2, h.d3⟩, hf⟩
  have h1 := h.lr
  rw [hn] at h1
  have := (h1.stored (i * 4 + j) u).1
  rw [blv_set _ _ _ _ _ _ hs hj hv] at this
  rw [List.length_set, hn]
  exact this
def TwAtP (L : WL) (hd : Int) (w : World) (e : Ending) (w' : World) : Prop := w = w' ∧ ((∃ (i : Nat) (b : Bl), L[i]? = some b ∧ b.h = hd ∧ e = .returned (.int .i64 i)) ∨ (fb L hd = none ∧ e = .returned (.int .i64 (-1))))
/-- At. -/
theorem twat_any (h : TwW w p pa Sa A L v) (hl : L.length ≤ 65536) (hd : Int) :
    Calls Try.prog 16 #[.pointer (some ⟨p, 0, none⟩), .int .u64 hd] w (TwAtP L hd w) := by
  obtain ⟨a, k, hv⟩ := h.shape
  have c1 := h.c1
  rw [hv] at c1
  have HH := hid h
  have HV := hid hv
  clear h hv
  obtain ⟨n, hn⟩ : ∃ n, n = L.length := ⟨_, rfl⟩
  rw [← hn] at c1 hl
  have HN := hid hn
  clear hn
  go_enter Try.func16, Try.ntmps16
  go_wp2
  go_loop [5] (fun i => ∃ q : Nat, q ≤ n ∧ i = .int .i64 q ∧ RowKit.Hid (∀ (j : Nat) o, j < q → L[j]? = some o → o.h ≠ hd)) (fun i => n - (intOf i).toNat)
  case atStart => exact ⟨0, by omega, rfl, hid (fun j o h => by omega)⟩
  case round =>
    obtain ⟨q, hq1, rfl, hno⟩ := hrel
    by_cases hql : q < n
    · have hqL : q < L.length := by rw [← HN.out]; exact hql
      have hr : L[q]? = some L[q] := List.getElem?_eq_getElem hqL
      generalize L[q] = o at hr
      obtain ⟨g, k', hcv2⟩ := HH.out.form hr
      have g0 := HH.out.at hr hcv2 0 (by omega)
      rw [HV.out, ← HN.out] at hcv2
      simp only [Value.slice.injEq] at hcv2
      obtain ⟨rfl, -, rfl⟩ := hcv2
      simp only [Bl.cells, List.getElem?_cons_zero] at g0
      rw [Nat.add_zero] at g0
      have HR := hid hr
      clear hr hqL
      obtain ⟨u, hu⟩ : ∃ u, u = o.h := ⟨_, rfl⟩
      rw [← hu] at g0
      have HU := hid hu
      clear hu
      by_cases he : u = hd
      · have hb : (u == hd) = true := by simpa using he
        have HE := hid he
        clear he
        go_wp2
        go_ret
        exact ⟨rfl, .inl ⟨q, o, HR.out, by rw [← HU.out]; exact HE.out, rfl⟩⟩
      · have hb : (u == hd) = false := by simpa using he
        have HE := hid he
        clear he
        go_wp2
        go_round
        case rel => exact ⟨q + 1, by omega, by go_num, hid (fun j o' hj ho' => by
          by_cases e : j < q
          · exact hno.out j o' e ho'
          · obtain rfl : j = q := by omega
            rw [HR.out] at ho'
            cases ho'
            rw [← HU.out]
            exact HE.out)⟩
        case measure => simp [intOf]; omega
    · go_wp2
      go_ret
      have hf : fb L hd = none := fb_none.2 fun o ho => by
        obtain ⟨j, hj, rfl⟩ := List.getElem_of_mem ho
        exact hno.out j _ (by have := HN.out; omega) (List.getElem?_eq_getElem hj)
      exact ⟨rfl, .inr ⟨hf, rfl⟩⟩
def TwLivP (L : WL) (t : Int) (w : World) (e : Ending) (w' : World) : Prop := w = w' ∧ ((∃ (i : Nat) (b : Bl), L[i]? = some b ∧ b.t = t ∧ b.dead = false ∧ e = .returned (.int .i64 i)) ∨ (lv L t = none ∧ e = .returned (.int .i64 (-1))))
/-- Living. -/
theorem twlive_any (h : TwW w p pa Sa A L v) (hl : L.length ≤ 65536) (t : Int) :
    Calls Try.prog 26 #[.pointer (some ⟨p, 0, none⟩), .int .u64 t] w (TwLivP L t w) := by
  obtain ⟨a, k, hv⟩ := h.shape
  have c1 := h.c1
  rw [hv] at c1
  have HH := hid h
  have HV := hid hv
  clear h hv
  obtain ⟨n, hn⟩ : ∃ n, n = L.length := ⟨_, rfl⟩
  rw [← hn] at c1 hl
  have HN := hid hn
  clear hn
  go_enter Try.func26, Try.ntmps26
  go_wp2
  go_loop [5] (fun i => ∃ q : Nat, q ≤ n ∧ i = .int .i64 q ∧ RowKit.Hid (∀ (j : Nat) o, j < q → L[j]? = some o → o.dead = false → o.t ≠ t)) (fun i => n - (intOf i).toNat)
  case atStart => exact ⟨0, by omega, rfl, hid (fun j o h => by omega)⟩
  case round =>
    obtain ⟨q, hq1, rfl, hno⟩ := hrel
    by_cases hql : q < n
    · have hqL : q < L.length := by rw [← HN.out]; exact hql
      have hr : L[q]? = some L[q] := List.getElem?_eq_getElem hqL
      generalize L[q] = o at hr
      obtain ⟨g, k', hcv2⟩ := HH.out.form hr
      have g1 := HH.out.at hr hcv2 1 (by omega)
      have g2 := HH.out.at hr hcv2 2 (by omega)
      rw [HV.out, ← HN.out] at hcv2
      simp only [Value.slice.injEq] at hcv2
      obtain ⟨rfl, -, rfl⟩ := hcv2
      simp only [Bl.cells, List.getElem?_cons_succ, List.getElem?_cons_zero] at g1 g2
      have HR := hid hr
      clear hr hqL
      obtain ⟨u, hu⟩ : ∃ u, u = o.t := ⟨_, rfl⟩
      obtain ⟨dd, hdd⟩ : ∃ dd, dd = o.dead := ⟨_, rfl⟩
      rw [← hu] at g1
      rw [← hdd] at g2
      have HU := hid hu
      have HDD := hid hdd
      clear hu hdd
      have next : ¬ (u = t ∧ dd = false) → RowKit.Hid (∀ (j : Nat) o, j < q + 1 → L[j]? = some o → o.dead = false → o.t ≠ t) := fun hn => hid (fun j o' hj ho' hd' ht' => by
        by_cases e : j < q
        · exact hno.out j o' e ho' hd' ht'
        · obtain rfl : j = q := by omega
          rw [HR.out] at ho'
          cases ho'
          exact hn ⟨HU.out.trans ht', HDD.out.trans hd'⟩)
      have NX := hid next
      clear next
      by_cases he : u = t
      · have hb : (u == t) = true := by simpa using he
        have HE := hid he
        clear he
        cases dd with
        | false =>
          go_wp2
          go_ret
          exact ⟨rfl, .inl ⟨q, o, HR.out, by rw [← HU.out]; exact HE.out, HDD.out.symm, rfl⟩⟩
        | true =>
          go_wp2
          go_round
          case rel => exact ⟨q + 1, by omega, by go_num, NX.out (fun h => by cases h.2)⟩
          case measure => simp [intOf]; omega
      · have hb : (u == t) = false := by simpa using he
        have HE := hid he
        clear he
        go_wp2
        go_round
        case rel => exact ⟨q + 1, by omega, by go_num, NX.out (fun h => HE.out h.1)⟩
        case measure => simp [intOf]; omega
    · go_wp2
      go_ret
      have hf : lv L t = none := lv_none.2 fun o ho hd => by
        obtain ⟨j, hj, rfl⟩ := List.getElem_of_mem ho
        exact hno.out j _ (by have := HN.out; omega) (List.getElem?_eq_getElem hj) hd
      exact ⟨rfl, .inr ⟨hf, rfl⟩⟩
end
end Go.Proofs.Ytmampaglemleoab

namespace Go.Proofs.Ytmampaglemleoab
open Go Go.ChangeShapes Go.WideShapes Go.ChangeAt Go.RowKit

theorem twput_some (S : Nat → Prop) (w : World) (p : Nat) (A A' : Ar) (i g : Nat) (x : Int) (h : RInS S w p A) (hp : Put A x i g A') :
    Calls Try.prog 32 #[.pointer (some ⟨p, 0, none⟩), .int .i64 x] w (RPost S w p A' (.int .u64 (hand i g))) := by
  cases hp with
  | again F i s hF hs => exact RPut_again S w p A i s.g F s x h hF hs rfl
  | fresh hF hl => exact RPut_fresh S w p A x h hF hl
theorem twdrop_any (S : Nat → Prop) (w : World) (p : Nat) (A : Ar) (i : Nat) (s : Spot) (h : RInS S w p A) (hs : A.L[i]? = some s) (ht : s.t = true) : Calls Try.prog 33 #[.pointer (some ⟨p, 0, none⟩), .int .i64 i] w (RDropPost S w p (dropAt A i s)) := by
  by_cases hw : s.g < 4294967295
  · exact RDrop_again S w p A i s h hs ht hw
  · exact RDrop_worn S w p A i s h hs ht hw
theorem infoBl : (Try.prog.info? 50).map (fun i => (i.zero, i.size, i.bytes)) = some (some (.agg #[.int .u64 0, .int .u64 0, .bool false, .int .u32 0]), 4, 24) := by kernel_rfl
section
variable {w w' : World} {p pa : Nat} {Sa Sa' : Nat → Prop} {A A' : Ar} {L : WL} {v : Value} {fp : Nat → Prop}
/-- The arena has turned. -/
theorem TwW.arena (h : TwW w p pa Sa A L v) (h1 : RInS (ext Sa w w') w' pa A') (hf : Fr Sa w w') : TwW w' p pa (ext Sa w w') A' L v :=
  ⟨by rw [hf.block p h.lt h.d1]; exact h.hp, h1, hf.owns h.lr h.d3, fun e => by
      rcases e with e | e
      · exact h.d1 e
      · have := h.lt; omega, h.d2, fun k hk e => by
      rcases e with e | e
      · exact h.d3 k hk e
      · have := (h.lr.lt k hk).2; omega⟩
/-- The list is another row. -/
theorem TwW.list {v' : Value} {L' : WL} (h : TwW w p pa Sa A L v) (hf : Fr (fun k => k = p ∨ v.ownBlock = some k) w w') (hp : w'.heap[p]? = some (.cells #[.pointer (some ⟨pa, 0, none⟩), v'] 42 (0, 0)))
    (hr : w'.ownsRow 0 50 4 v' L'.length (blv L')) (hat : ∀ k, v'.ownBlock = some k → v.ownBlock = some k ∨ w.heap.size ≤ k) : TwW w' p pa Sa A L' v' :=
  ⟨hp, h.ar.fr hf (fun k hk e => by
      rcases e with e | e
      · exact h.d1 (e ▸ hk)
      · exact h.d3 k e hk), hr, h.d1, fun e => by
      rcases hat p e with e | e
      · exact h.d2 e
      · have := h.lt; omega, fun k hk e => by
      rcases hat k hk with e2 | e2
      · exact h.d3 k e2 e
      · have := h.ar.lt k e; omega⟩
/-- Of, where one lives. -/
theorem twof_up (h : TwW w p pa Sa A L v) (hnd : (L.map (·.h)).Nodup) (hl : L.length ≤ 65536) {t : Int} {b : Bl} (hb : lv L t = some b) (hone : ∀ c ∈ L, c.dead = false → c.t = t → c = b) (hn : 1 ≤ b.n ∧ b.n < 4294967295) :
    Calls Try.prog 24 #[.pointer (some ⟨p, 0, none⟩), .int .u64 t] w fun e w' => e = .returned (.int .u64 b.h) ∧ TwW w' p pa Sa A (setn L b.h (b.n + 1)) v ∧ Fr (fun k => v.ownBlock = some k) w w' := by
  have HLV := hid (twlive_any h hl t)
  have HH := hid h
  have HND := hid hnd
  have HONE := hid hone
  have HBB := hid hb
  have HNN := hid hn
  clear h hnd hone hb hn
  go_enter Try.func24, Try.ntmps24
  go_wp2_with fail
  refine HLV.out.mono ?_
  rintro e w1 ⟨rfl, ⟨i, c, hc, h1, h2, rfl⟩ | ⟨h1, rfl⟩⟩
  · obtain rfl : c = b := HONE.out c (List.mem_of_getElem? hc) h2 h1
    obtain ⟨g, k, rfl⟩ := HH.out.form hc
    have hil : i < L.length := (List.getElem?_eq_some_iff.1 hc).1
    have c1 := HH.out.c1
    have g0 := HH.out.at hc rfl 0 (by omega)
    have g3 := HH.out.at hc rfl 3 (by omega)
    simp only [Bl.cells, List.getElem?_cons_succ, List.getElem?_cons_zero] at g0 g3
    rw [Nat.add_zero] at g0
    have z3 := HH.out.fl rfl (i * 4 + 3)
    have hgp : g ≠ p := fun e => HH.out.d2 (by rw [e]; rfl)
    have hpg : p ≠ g := Ne.symm hgp
    obtain ⟨s1, s2⟩ := HH.out.setL rfl hc (s' := { c with n := c.n + 1 }) 3 (.int .u32 (c.n + 1)) (by omega) rfl
    rw [← setn_at HND.out hc] at s1
    have hw : IntKind.u32.wrap (c.n + 1) = c.n + 1 := IntWalk.u32_in _ (by have := HNN.out; omega)
    have S1 := hid s1
    have S2 := hid s2
    have hln : L.length ≤ 65536 := hl
    clear hl HLV HND HONE HBB HNN hc h1 h2 HH s1 s2
    go_wp2
    go_ret
    exact ⟨rfl, S1.out, S2.out.mono (fun k e _ => by rw [e]; rfl)⟩
  · have := HBB.out
    rw [h1] at this
    cases this
theorem twof_full (h : TwW w p pa Sa A L v) (hl : L.length ≤ 65536) {t : Int} (hb : lv L t = none) (hF : Full A) :
    Calls Try.prog 24 #[.pointer (some ⟨p, 0, none⟩), .int .u64 t] w fun e w' => e = .returned (.int .u64 0) ∧ w = w' := by
  have HLV := hid (twlive_any h hl t)
  have HP := hid (RPut_full Sa w pa A 0 h.ar hF)
  have HB := hid hb
  have c0 := h.c0
  clear h hb hF
  go_enter Try.func24, Try.ntmps24
  go_wp2_with fail
  refine HLV.out.mono ?_
  rintro e w1 ⟨rfl, ⟨i, c, hc, h1, h2, rfl⟩ | ⟨h1, rfl⟩⟩
  · exact absurd h1 (lv_none.1 HB.out c (List.mem_of_getElem? hc) h2)
  · clear HLV HB
    go_wp2_with (refine HP.out.mono ?_; rintro e w1 ⟨rfl, rfl⟩)
    go_ret
    exact ⟨rfl, rfl⟩
set_option maxHeartbeats 1000000 in
set_option maxRecDepth 100000 in
theorem twof_new (h : TwW w p pa Sa A L v) (hl : L.length ≤ 65536) {t : Int} (hb : lv L t = none) {i g : Nat} (hp : Put A 0 i g A') (hA : Ok A) :
    Calls Try.prog 24 #[.pointer (some ⟨p, 0, none⟩), .int .u64 t] w fun e w' => e = .returned (.int .u64 (hand i g)) ∧
      ∃ Sa' v', TwW w' p pa Sa' A' (L ++ [⟨hand i g, t, false, 1⟩]) v' ∧ (∀ k, Sa' k → Sa k ∨ (w.heap.size ≤ k ∧ k < w'.heap.size)) ∧ (∀ k, v'.ownBlock = some k → v.ownBlock = some k ∨ (w.heap.size ≤ k ∧ k < w'.heap.size)) ∧ Fr (fun k => Sa k ∨ k = p ∨ v.ownBlock = some k) w w' := by
  have HLV := hid (twlive_any h hl t)
  have HP := hid (twput_some Sa w pa A A' i g 0 h.ar hp)
  have hbd := hand_bd (hp.ok hA) ((hp.at hA i ⟨0, g, true⟩ rfl).2 (.inr ⟨rfl, rfl⟩))
  simp only at hbd
  have HB := hid hb
  have HH := hid h
  have c0 := h.c0
  obtain ⟨hd, hhd⟩ : ∃ hd, hd = hand i g := ⟨_, rfl⟩
  rw [← hhd] at HP hbd ⊢
  have hne : (hd != 0) = true := by
    have : hd ≠ 0 := by omega
    simpa using this
  obtain ⟨i0, hi, hz0, hz1, hz2⟩ := info_parts infoBl
  have hi' := hid hi
  have hz0' := hid hz0
  have hz1' := hid hz1
  have hz2' := hid hz2
  clear h hb hp hhd hbd hi hz0 hz1 hz2 hA
  go_enter Try.func24, Try.ntmps24
  go_wp2_with fail
  refine HLV.out.mono ?_
  rintro e w1 ⟨rfl, ⟨i, c, hc, h1, h2, rfl⟩ | ⟨h1, rfl⟩⟩
  · exact absurd h1 (lv_none.1 HB.out c (List.mem_of_getElem? hc) h2)
  · clear HLV HB h1
    go_wp2_with fail
    refine HP.out.mono ?_
    rintro e w2 ⟨rfl, hr2, hf2⟩
    have h2 := HH.out.arena hr2 hf2
    have c1 := h2.c1
    have z1 := h2.fz 1
    obtain ⟨a, k, hv⟩ := h2.shape
    rw [hv] at c1
    have hlr := h2.lr
    rw [hv] at hlr
    have hd2 := h2.d2
    have hpl := h2.lt
    have H2 := hid h2
    have HF2 := hid hf2
    have HV := hid hv
    have HLR := hid hlr
    have hln := hl
    obtain ⟨n, hn⟩ : ∃ n, n = L.length := ⟨_, rfl⟩
    rw [← hn] at c1 HLR hln HV
    have HN := hid hn
    clear hr2 hf2 h2 HP hv hlr hl hn c0 HH
    go_wp2_with (first
      | (at_builtin; refine wpList_append_own_at _ (o := ⟨some 47, _, _, _, _, _⟩) rfl (.tmp 42) (.tmp 46) 40 rfl 0 50 i0 (.agg #[.int .u64 0, .int .u64 0, .bool false, .int .u32 0]) 4 24 Try.underlying40 hi'.out hz0'.out hz1'.out hz2'.out rfl (by decide) (.slice a n k) _ _ rfl (HLR.out.alloc _) ⟨w2.heap.size, 0, none⟩ 1 1 [.int .u64 hd, .int .u64 t, .bool false, .int .u32 1] rfl rfl (World.news_of_block (heap_alloc_new w2 _)) (by simp [Value.oneCell']) (by unfold maxLen; omega) (by omega) (Nat.zero_le _) ?_; intro vz wz hownz hgrowz hnilz hatz; obtain ⟨gz, kz, rfl⟩ := ownsRow_succ hownz; have hbz : wz.heap[p]? = w2.heap[p]? := (by rw [hgrowz.block p (by simp; omega) (fun e => hd2 (by rw [HV.out]; exact e.symm))]; exact Below.heap_alloc _ _ _ hpl); have c1z : wz.cell? ⟨p, 1, none⟩ = some (.slice a n k) := (World.cell?_of_block hbz).trans c1; have z1z : wz.frozen? ⟨p, 1, none⟩ = false := (World.frozen?_of_block hbz).trans z1; have HOz := hid hownz; have HGz := hid hgrowz; have HAz := hid hatz; have HBz := hid hbz; clear hownz hgrowz hnilz hatz hbz)
      | fail)
    go_ret
    have hgz : ∀ q, (Value.slice (some ⟨gz, 0, none⟩) (n + 1) kz).ownBlock = some q → v.ownBlock = some q ∨ w2.heap.size ≤ q := fun q hq => by
      rcases HAz.out with e | e
      · left; rw [HV.out, ← e]; exact hq
      · right; rw [hq] at e; cases e; simp
    have hgp : gz ≠ p := fun e => by
      rcases hgz p (by simp [Value.ownBlock, e]) with e | e
      · exact hd2 e
      · omega
    have hpz : wz.heap[p]? = some (.cells #[.pointer (some ⟨pa, 0, none⟩), v] 42 (0, 0)) := by
      rw [HBz.out]; exact H2.out.hp
    have hfz : Fr (fun q => q = p ∨ v.ownBlock = some q) w2 (wz.setCell ⟨p, 1, none⟩ (.slice (some ⟨gz, 0, none⟩) (n + 1) kz)) :=
      (((Fr.refl _ _).alloc _).grown HGz.out (fun q hq _ => .inr (by rw [HV.out]; exact hq))).setCell _ _ (fun _ => .inl rfl)
    have hz := H2.out.list (L' := L ++ [⟨hd, t, false, 1⟩]) hfz (by rw [heap_setCell_same _ _ _ _ _ _ hpz]; rfl) (by
      rw [List.length_append, blv_app, List.length_singleton, ← HN.out]
      exact ownsRow_setCell_other HOz.out (by simp [Value.ownBlock]; exact hgp) _) hgz
    refine ⟨rfl, _, _, hz, fun q hq => ?_, fun q hq => ?_, ?_⟩
    · rcases hq with hq | hq
      · exact .inl hq
      · exact .inr ⟨hq.1, Nat.lt_of_lt_of_le hq.2 hfz.size⟩
    · rcases hgz q hq with e | e
      · exact .inl e
      · exact .inr ⟨Nat.le_trans HF2.out.size e, (hz.lr.lt q hq).2⟩
    · exact (HF2.out.mono (fun q e _ => .inl e)).trans hfz (fun q hq _ => .inr hq)
end
end Go.Proofs.Ytmampaglemleoab

namespace Go.Proofs.Ytmampaglemleoab
open Go Go.ChangeShapes Go.WideShapes Go.ChangeAt Go.RowKit

theorem exec_toB {o : Oper} {f : Operand → Value} {W : World} {p h : Operand} {b oo n cap hi : Nat} (ho : o.op = .slice 40 p none (some h) none) (hp : f p = .slice (some ⟨b, oo, none⟩) n cap) (hh : f h = .int .i64 hi) (h2 : hi ≤ cap) :
    (execOp f o).run Try.prog W = .ok (.value (.slice (some ⟨b, oo, none⟩) hi cap)) W := by
  unfold execOp
  simp only [ho, hp]
  simp only [Option.map, hh]
  go_simp
theorem exec_fromB {o : Oper} {f : Operand → Value} {W : World} {p l : Operand} {b oo o2 n cap lo : Nat} (ho : o.op = .slice 40 p (some l) none none) (hp : f p = .slice (some ⟨b, oo, none⟩) n cap) (hl : f l = .int .i64 lo) (h1 : lo ≤ n) (h2 : cap = lo ∧ o2 = oo ∨ ¬ cap = lo ∧ o2 = oo + lo * 4) :
    (execOp f o).run Try.prog W = .ok (.value (.slice (some ⟨b, o2, none⟩) (n - lo) (cap - lo))) W := by
  unfold execOp
  simp only [ho, hp]
  simp only [Option.map, hl]
  rcases h2 with ⟨h3, rfl⟩ | ⟨h3, rfl⟩
  · go_simp
  · go_simp
theorem blv_cut (M : WL) (i : Nat) : blv M = blv (M.take i) ++ blv (M.drop i) := by rw [← blv_app, List.take_append_drop]
section
variable {w w' : World} {p pa : Nat} {Sa Sa' : Nat → Prop} {A A' : Ar} {L : WL} {v : Value} {fp : Nat → Prop}
/-- Down, where it is not the last. -/
theorem twdown_more (h : TwW w p pa Sa A L v) (hnd : (L.map (·.h)).Nodup) (_ : L.length ≤ 65536) {i : Nat} {b : Bl} (hb : L[i]? = some b) (hn : 1 < b.n ∧ b.n ≤ 4294967295) :
    Calls Try.prog 25 #[.pointer (some ⟨p, 0, none⟩), .int .i64 i] w fun e w' => e = .returned (.int .u32 (b.n - 1)) ∧ TwW w' p pa Sa A (setn L b.h (b.n - 1)) v ∧ Fr (fun k => v.ownBlock = some k) w w' := by
  obtain ⟨g, k, rfl⟩ := h.form hb
  have hil : i < L.length := (List.getElem?_eq_some_iff.1 hb).1
  have c1 := h.c1
  have g3 := h.at hb rfl 3 (by omega)
  simp only [Bl.cells, List.getElem?_cons_succ, List.getElem?_cons_zero] at g3
  have z3 := h.fl rfl (i * 4 + 3)
  have hgp : g ≠ p := fun e => h.d2 (by rw [e]; rfl)
  have hpg : p ≠ g := Ne.symm hgp
  obtain ⟨s1, s2⟩ := h.setL rfl hb (s' := { b with n := b.n - 1 }) 3 (.int .u32 (b.n - 1)) (by omega) rfl
  rw [← setn_at hnd hb] at s1
  have hw : IntKind.u32.wrap (b.n - 1) = b.n - 1 := IntWalk.u32_in _ (by omega)
  have hq : (b.n - 1 == 0) = false := by simp; omega
  have S1 := hid s1
  have S2 := hid s2
  clear h hnd hb hn s1 s2
  go_enter Try.func25, Try.ntmps25
  go_wp2
  go_ret
  exact ⟨rfl, S1.out, S2.out.mono (fun q e _ => by rw [e]; rfl)⟩
set_option maxHeartbeats 2000000 in
set_option maxRecDepth 100000 in
/-- Down, where it is the last. -/
theorem twdown_last (h : TwW w p pa Sa A L v) (hnd : (L.map (·.h)).Nodup) (hl : L.length ≤ 65536) {i : Nat} {b : Bl} (hb : L[i]? = some b) (hn : b.n = 1) {ia : Nat} {sp : Spot} (ha : Found A b.h ia sp) (hA : Ok A) :
    Calls Try.prog 25 #[.pointer (some ⟨p, 0, none⟩), .int .i64 i] w fun e w' => e = .returned (.int .u32 0) ∧
      ∃ Sa' v', TwW w' p pa Sa' (dropAt A ia sp) (cutb L b.h) v' ∧ (∀ k, Sa' k → Sa k ∨ (w.heap.size ≤ k ∧ k < w'.heap.size)) ∧ (∀ k, v'.ownBlock = some k → v.ownBlock = some k ∨ (w.heap.size ≤ k ∧ k < w'.heap.size)) ∧ Fr (fun k => Sa k ∨ k = p ∨ v.ownBlock = some k) w w' := by
  obtain ⟨g, k, rfl⟩ := h.form hb
  have hil : i < L.length := (List.getElem?_eq_some_iff.1 hb).1
  have c0 := h.c0
  have c1 := h.c1
  have g0 := h.at hb rfl 0 (by omega)
  have g3 := h.at hb rfl 3 (by omega)
  simp only [Bl.cells, List.getElem?_cons_succ, List.getElem?_cons_zero] at g0 g3
  rw [Nat.add_zero] at g0
  rw [hn] at g3
  have z3 := h.fl rfl (i * 4 + 3)
  have hgp : g ≠ p := fun e => h.d2 (by rw [e]; rfl)
  have hpg : p ≠ g := Ne.symm hgp
  obtain ⟨w1, hw1⟩ : ∃ w1, w1 = w.setCell ⟨g, i * 4 + 3, none⟩ (.int .u32 0) := ⟨_, rfl⟩
  obtain ⟨s1, s2⟩ := h.setL rfl hb (s' := { b with n := 0 }) 3 (.int .u32 0) (by omega) rfl
  rw [← hw1] at s1 s2
  have hcut : cutb L b.h = (L.set i { b with n := 0 }).take i ++ (L.set i { b with n := 0 }).drop (i + 1) := by
    rw [cutb_at hnd hb, List.take_set_of_le (Nat.le_refl _), List.drop_set_of_lt (Nat.lt_succ_self _)]
  obtain ⟨M, hM⟩ : ∃ M, M = L.set i { b with n := 0 } := ⟨_, rfl⟩
  rw [← hM] at s1 hcut
  have hb1 : M[i]? = some { b with n := 0 } := by rw [hM, List.getElem?_set_self hil]
  have hMl : M.length = L.length := by rw [hM, List.length_set]
  have d0 := s1.c0
  have d1 := s1.c1
  have q0 := s1.at hb1 (by rw [hMl]) 0 (by omega)
  have q3 := s1.at hb1 (by rw [hMl]) 3 (by omega)
  simp only [Bl.cells, List.getElem?_cons_succ, List.getElem?_cons_zero] at q0 q3
  rw [Nat.add_zero] at q0
  have hlr1 := s1.lr
  have hkk := own_cap h.lr
  have HAT := hid (fun W (hW : Fr (fun _ => False) w1 W) => by
    have := At_any W pa
    obtain ⟨cv, fv, R, e1, e2, _⟩ := s1.ar.fr hW (fun _ _ e => e)
    exact this cv fv A R b.h e1 e2)
  have HDR := hid (fun W (hW : Fr (fun _ => False) w1 W) => twdrop_any Sa W pa A ia sp (s1.ar.fr hW (fun _ _ e => e)) ha.1 ha.2.1)
  have HS1 := hid s1
  have HS2 := hid s2
  have HC := hid hcut
  have HW1 := hid hw1
  have HMl := hid hMl
  have HA := hid ha
  have HOK := hid hA
  obtain ⟨i0, hi, hz0, hz1, hz2⟩ := info_parts infoBl
  have hi' := hid hi
  have hz0' := hid hz0
  have hz1' := hid hz1
  have hz2' := hid hz2
  clear h hnd hb hn s1 s2 hcut hw1 hM hb1 hi hz0 hz1 hz2 ha hA
  obtain ⟨n, hnl⟩ : ∃ n, n = L.length := ⟨_, rfl⟩
  rw [← hnl] at hMl hil c1 hl d1 hkk HMl HS1
  have HNL := hid hnl
  clear hMl
  go_enter Try.func25, Try.ntmps25
  rw [← hnl]
  clear hnl
  go_upto_region 2 with (fail)
  rw [← HW1.out]
  clear g0 g3 z3 c0 c1
  go_wp2
  refine D.wp_region_mix [0, 0, 0, 1, 0, 0, 0, 1, 0, 0, 0, 1, 0, 0, 0, 1, 2, 3] (fun W => W.cell? ⟨p, 0, none⟩ = some (.pointer (some ⟨pa, 0, none⟩)) ∧ W.cell? ⟨p, 1, none⟩ = some (.slice (some ⟨g, 0, none⟩) n k) ∧ W.cell? ⟨g, i * 4, none⟩ = some (.int .u64 b.h)) (by kernel_rfl) (by kernel_rfl) ⟨d0, d1, q0⟩ ?_
  repeat (first
    | (refine' C.wpMix_value _ rfl rfl _ _; rotate_left; (solve | (intro W; go_simp) | (intro W; go_simp; with_reducible rfl)); simp only [Act.put, List.setIfInBounds_toArray, List.set_cons_zero, List.set_cons_succ])
    | (refine' C.wpMix_read _ rfl rfl _ _; rotate_left; (solve | (rintro W ⟨h1, h2, h3⟩; go_simp) | (rintro W ⟨h1, h2, h3⟩; go_simp; with_reducible rfl)); simp only [Act.put, List.setIfInBounds_toArray, List.set_cons_zero, List.set_cons_succ]))
  have hdr0 : Fr (fun _ => False) w1 w1.drew := (Fr.refl _ _).drew
  refine C.wpMix_call 34 #[.pointer (some ⟨pa, 0, none⟩), .int .u64 b.h] (by decide) rfl (by go_simp) ?_
  refine (HAT.out _ hdr0).mono ?_
  rintro e w2 ⟨rfl, ⟨ja, sj, hfj, rfl⟩ | ⟨hst, rfl⟩⟩
  · obtain ⟨rfl, rfl⟩ := hfj.same HOK.out HA.out
    refine ⟨_, rfl, fun _ => ⟨d0, d1, q0⟩, ?_⟩
    simp only [Act.put, List.setIfInBounds_toArray, List.set_cons_zero, List.set_cons_succ]
    refine C.wpMix_call 33 #[.pointer (some ⟨pa, 0, none⟩), .int .i64 ja] (by decide) rfl (by go_simp) ?_
    refine (HDR.out _ hdr0).mono ?_
    rintro e w2 ⟨u2, rfl, hr2, hf2⟩
    refine ⟨_, rfl, (fun h => by cases h), ?_⟩
    simp only [Act.put, List.setIfInBounds_toArray, List.set_cons_zero, List.set_cons_succ]
    refine C.wpMix_end ?_
    have h2 := (HS1.out.no hdr0).arena hr2 hf2
    have e1 := h2.c1
    have z1 := h2.fz 1
    have H2 := hid h2
    have HF2 := hid hf2
    clear hr2 hf2 h2 HAT HDR d0 d1 q0 q3 hfj hdr0
    have hn1 : ∀ (j : Nat) u, (blv (M.take i))[j]? = some u → w2.cell? ((⟨g, 0, none⟩ : Addr).add j) = some u := fun j u hu => by
      have hlr := H2.out.lr
      rw [HMl.out] at hlr
      refine hlr.cells (g := g) rfl j u ?_
      rw [blv_cut M i, List.getElem?_append_left (List.getElem?_eq_some_iff.1 hu).1]
      exact hu
    have HN1 := hid hn1
    have HTK := hid (show (blv (M.take i)).length = i * 4 by rw [blv_len, List.length_take]; have := HMl.out; omega)
    have hpl := H2.out.lt
    clear hn1
    go_upto_region 7 with (first
      | ((with_reducible refine at_op ⟨some 52, _, _, _, _, _⟩ ?_); refine wpList_run rfl _ (exec_toB rfl rfl rfl (show i ≤ k by omega)) ?_)
      | ((with_reducible refine at_op ⟨some 53, _, _, _, _, _⟩ ?_); refine wpList_append_own_at _ (o := ⟨some 53, _, _, _, _, _⟩) rfl (.tmp 46) (.tmp 52) 40 rfl 0 50 i0 (.agg #[.int .u64 0, .int .u64 0, .bool false, .int .u32 0]) 4 24 Try.underlying40 hi'.out hz0'.out hz1'.out hz2'.out rfl (by decide) (.slice none 0 0) 0 [] rfl (World.ownsRow_nil _ _ _ _) ⟨g, 0, none⟩ i k (blv (M.take i)) rfl HTK.out HN1.out (blv_one _) (by unfold maxLen; omega) (by omega) (Nat.zero_le _) ?_; intro v3 w3 hown3 hgrow3 hnil3 hat3; clear hnil3)
      | fail)
    have hb3 : Below w2.heap.size w2 w3 := ⟨hgrow3.os, hgrow3.tape, hgrow3.output, hgrow3.size, fun q hq => hgrow3.block q hq (fun e => by cases e)⟩
    have h3 := H2.out.no (Fr.of_below hb3)
    have e3 := h3.c1
    have z3 := h3.fz 1
    rw [Nat.zero_add, List.nil_append] at hown3
    obtain ⟨a3, k3, rfl⟩ := own_form hown3
    have hat : ∀ q, (Value.slice a3 i k3).ownBlock = some q → w2.heap.size ≤ q := fun q hq => by
      rcases hat3 with e | e
      · rw [e] at hq; cases hq
      · rw [e] at hq; cases hq; exact Nat.le_refl _
    obtain ⟨o2, ho2⟩ : ∃ o2, k = i + 1 ∧ o2 = 0 ∨ ¬ k = i + 1 ∧ o2 = 0 + (i + 1) * 4 := by
      by_cases e : k = i + 1
      · exact ⟨0, .inl ⟨e, rfl⟩⟩
      · exact ⟨_, .inr ⟨e, rfl⟩⟩
    have hn3 : ∀ (j : Nat) u, (blv (M.drop (i + 1)))[j]? = some u → w3.cell? ((⟨g, o2, none⟩ : Addr).add j) = some u := fun j u hu => by
      have hj := (List.getElem?_eq_some_iff.1 hu).1
      rw [blv_len, List.length_drop, HMl.out] at hj
      have hlr := h3.lr
      rw [HMl.out] at hlr
      have e := hlr.cells (g := g) rfl ((i + 1) * 4 + j) u (by
        rw [blv_cut M (i + 1), List.getElem?_append_right (by rw [blv_len, List.length_take, HMl.out]; omega), blv_len, List.length_take, HMl.out, Nat.min_eq_left (by omega), Nat.add_sub_cancel_left]
        exact hu)
      rw [Addr.add_mid] at e ⊢
      have : o2 = (i + 1) * 4 := by omega
      rw [this]
      rw [Nat.zero_add] at e
      exact e
    have HN3 := hid hn3
    have HDL := hid (show (blv (M.drop (i + 1))).length = (n - (i + 1)) * 4 by rw [blv_len, List.length_drop, HMl.out])
    have hpl3 := h3.lt
    have H3 := hid h3
    have HB3 := hid hb3
    have HOWN3 := hid hown3
    have HAT3 := hid hat
    have hdp : ∀ q, (Value.slice a3 i k3).ownBlock = some q → q ≠ p := fun q hq e => by have := hat q hq; omega
    have HDP := hid hdp
    have hw : IntKind.i64.wrap ((i : Int) + 1) = ((i + 1 : Nat) : Int) := by rw [IntWalk.i64_in _ (by omega)]; simp
    clear hn3 h3 hb3 hown3 hat hat3 hgrow3 hdp e1 z1 hpl HN1 HTK
    go_wp2_with (first
      | ((with_reducible refine at_op ⟨some 62, _, _, _, _, _⟩ ?_); refine wpList_run rfl _ (exec_fromB (b := g) (oo := 0) (o2 := o2) (n := n) (cap := k) (lo := i + 1) rfl rfl (by first | rfl | simp) (by omega) ho2) ?_)
      | ((with_reducible refine at_op ⟨some 63, _, _, _, _, _⟩ ?_); refine wpList_append_own_at _ (o := ⟨some 63, _, _, _, _, _⟩) rfl (.tmp 55) (.tmp 62) 40 rfl 0 50 i0 (.agg #[.int .u64 0, .int .u64 0, .bool false, .int .u32 0]) 4 24 Try.underlying40 hi'.out hz0'.out hz1'.out hz2'.out rfl (by decide) (.slice a3 i k3) i _ rfl HOWN3.out ⟨g, o2, none⟩ (n - (i + 1)) (k - (i + 1)) (blv (M.drop (i + 1))) rfl HDL.out HN3.out (blv_one _) (by unfold maxLen; omega) (by omega) (Nat.zero_le _) ?_; intro vz wz hownz hgrowz hnilz hatz; obtain ⟨az, kz, rfl⟩ := own_form hownz; have hbz : wz.heap[p]? = w3.heap[p]? := hgrowz.block p hpl3 (fun e => HDP.out p e.symm rfl); have c1z : wz.cell? ⟨p, 1, none⟩ = some (.slice (some ⟨g, 0, none⟩) n k) := (World.cell?_of_block hbz).trans e3; have z1z : wz.frozen? ⟨p, 1, none⟩ = false := (World.frozen?_of_block hbz).trans z3; have HOz := hid hownz; have HGz := hid hgrowz; have HAz := hid hatz; have HBz := hid hbz; clear hownz hgrowz hnilz hatz hbz)
      | fail)
    go_ret
    have hlen : i + (n - (i + 1)) = (M.take i ++ M.drop (i + 1)).length := by rw [List.length_append, List.length_take, List.length_drop, HMl.out, Nat.min_eq_left (by omega)]
    have hatz : ∀ q, (Value.slice az (i + (n - (i + 1))) kz).ownBlock = some q → w2.heap.size ≤ q := fun q hq => by
      rcases HAz.out with e | e
      · rw [e] at hq; exact HAT3.out q hq
      · rw [e] at hq; cases hq; exact HB3.out.size
    have hf23 : Fr (fun q => q = p) w2 (wz.setCell ⟨p, 1, none⟩ (.slice az (i + (n - (i + 1))) kz)) := by
      refine Fr.setCell ?_ _ _ (fun _ => rfl)
      exact ((Fr.of_below (fp := fun q => q = p) HB3.out)).grown HGz.out (fun q hq hlt => by have := HAT3.out q hq; omega)
    have hpz : wz.heap[p]? = some (.cells #[.pointer (some ⟨pa, 0, none⟩), .slice (some ⟨g, 0, none⟩) n k] 42 (0, 0)) := by
      rw [HBz.out]; exact H3.out.hp
    have hz := H2.out.list (L' := M.take i ++ M.drop (i + 1)) (hf23.mono (fun q e _ => .inl e)) (by rw [heap_setCell_same _ _ _ _ _ _ hpz]; rfl) (by
      rw [← hlen, blv_app]
      exact ownsRow_setCell_other HOz.out (fun e => by have := hatz p e; have := H2.out.lt; omega) _) (fun q hq => .inr (hatz q hq))
    rw [← HC.out] at hz
    have hs1 : w1.heap.size = w.heap.size := by rw [HW1.out]; simp
    have hd : w1.drew.heap.size = w1.heap.size := rfl
    have hf02 : Fr (fun q => Sa q ∨ q = g) w w2 := ((HS2.out.drew).mono (fun q e _ => .inr e)).trans HF2.out (fun q hq _ => .inl hq)
    refine ⟨rfl, _, _, hz, fun q hq => ?_, fun q hq => ?_, ?_⟩
    · rcases hq with hq | hq
      · exact .inl hq
      · exact .inr ⟨by omega, Nat.lt_of_lt_of_le hq.2 hf23.size⟩
    · exact .inr ⟨Nat.le_trans hf02.size (hatz q hq), (hz.lr.lt q hq).2⟩
    · exact (hf02.mono (fun q e _ => by
        rcases e with e | e
        · exact .inl e
        · exact .inr (.inr (by rw [e]; rfl)))).trans hf23 (fun q e _ => .inr (.inl e))
  · exact absurd HA.out (hst _ _)
end
end Go.Proofs.Ytmampaglemleoab

namespace Go.Proofs.Ytmampaglemleoab
open Go Go.ChangeShapes Go.WideShapes Go.ChangeAt Go.RowKit

/-- The twin at a pointer, in a set of blocks. -/
def RfT (S : Nat → Prop) (w : World) (v : Value) (s : Ws) : Prop :=
  ∃ p pa Sa u, v = .pointer (some ⟨p, 0, none⟩) ∧ TwW w p pa Sa s.A s.L u ∧ WkI s ∧ (S p ∧ (∀ k, Sa k → S k) ∧ ∀ k, u.ownBlock = some k → S k) ∧ ∀ k, S k → k < w.heap.size
section
variable {S : Nat → Prop} {w w' : World} {v : Value} {s : Ws} {fp : Nat → Prop}
theorem RfT.ok (h : RfT S w v s) : WkI s := by
  obtain ⟨p, pa, Sa, u, _, _, h, _⟩ := h
  exact h
theorem RfT.lt (h : RfT S w v s) : ∀ k, S k → k < w.heap.size := by
  obtain ⟨p, pa, Sa, u, _, _, _, _, h⟩ := h
  exact h
theorem RfT.ptr (h : RfT S w v s) : ∃ b, v = .pointer (some ⟨b, 0, none⟩) := by
  obtain ⟨p, pa, Sa, u, h, _⟩ := h
  exact ⟨p, h⟩
theorem RfT.fr (h : RfT S w v s) (hf : Fr fp w w') (hd : ∀ k, S k → ¬ fp k) : RfT S w' v s := by
  obtain ⟨p, pa, Sa, u, h1, h2, h3, ⟨h5, h6, h7⟩, h9⟩ := h
  exact ⟨p, pa, Sa, u, h1, h2.fr hf (hd _ h5) (fun k hk => hd k (h6 k hk)) (fun k hk => hd k (h7 k hk)), h3, ⟨h5, h6, h7⟩, fun k hk => Nat.lt_of_lt_of_le (h9 k hk) hf.size⟩
theorem RfT.no (h : RfT S w v s) (hf : Fr (fun _ => False) w w') : RfT S w' v s := h.fr hf (fun _ _ e => e)
theorem RfT.wider (h : RfT S w' v s) : RfT (exS S w w') w' v s := by
  obtain ⟨p, pa, Sa, u, h1, h2, h3, ⟨h5, h6, h7⟩, h9⟩ := h
  exact ⟨p, pa, Sa, u, h1, h2, h3, ⟨.inl h5, fun k hk => .inl (h6 k hk), fun k hk => .inl (h7 k hk)⟩, fun k hk => by
    rcases hk with hk | hk
    · exact h9 k hk
    · exact hk.2⟩
/-- New. -/
theorem RfT.new (m : Int) (w : World) (hm : 1 ≤ m ∧ m ≤ 65536) : Calls Try.prog 9 #[.int .i64 m] w fun e w' => Below w.heap.size w w' ∧ ∃ p S, e = .returned p ∧ (∀ b, S b → w.heap.size ≤ b) ∧ RfT S w' p ⟨Go.Proofs.Ytmampaglemleoab.new m.toNat 1, []⟩ := by
  have HA := hid (RNew_any m 1 w (by omega) (by omega) (by omega) (by omega))
  have HM := hid hm
  clear hm
  go_enter Try.func9, Try.ntmps9
  go_wp2_with fail
  refine HA.out.mono ?_
  rintro e w1 ⟨rfl, hw1⟩
  have HW := hid hw1
  clear hw1
  go_wp2
  go_ret
  have hm := HM.out
  have hw1 := HW.out
  obtain ⟨w2, hw2⟩ : ∃ w2, w2 = w1.alloc (.cells #[.pointer (some ⟨w.heap.size, 0, none⟩), .slice none 0 0] 42) := ⟨_, rfl⟩
  rw [← hw2]
  have s1 : w1.heap.size = w.heap.size + 1 := by rw [hw1]; simp
  have s2 : w2.heap.size = w.heap.size + 2 := by rw [hw2]; simp; omega
  have f1 : Below w.heap.size w w1 := by rw [hw1]; exact (Below.refl _ _).alloc (Nat.le_refl _) _
  have f2 : Fr (fun _ => False) w1 w2 := by rw [hw2]; exact (Fr.refl _ _).alloc _
  have hp2 : w2.heap[w.heap.size + 1]? = some (.cells #[.pointer (some ⟨w.heap.size, 0, none⟩), .slice none 0 0] 42 (0, 0)) := by
    have := heap_alloc_new w1 (.cells #[.pointer (some ⟨w.heap.size, 0, none⟩), .slice none 0 0] 42)
    rw [s1, ← hw2] at this
    exact this
  have har : RInS (fun k => k = w.heap.size) w1 w.heap.size (Go.Proofs.Ytmampaglemleoab.new m.toNat 1) := by
    have := rnew_RInS w m.toNat 1 (by omega) (by omega)
    have e : ((m.toNat : Nat) : Int) = m := by omega
    rw [e] at this
    rw [hw1]
    exact this
  refine ⟨f1.trans (f2.below (B := w.heap.size) (by omega) (fun _ e => e.elim)), _, fun k => w.heap.size ≤ k ∧ k < w2.heap.size, rfl, fun b hb => hb.1, w1.heap.size, w.heap.size, fun k => k = w.heap.size, .slice none 0 0, rfl, ⟨by rw [s1]; exact hp2, har.fr f2 (fun _ _ e => e), World.ownsRow_nil _ _ _ _, by omega, by simp [Value.ownBlock], by simp [Value.ownBlock]⟩, WkI.new (by omega), ⟨⟨by omega, by omega⟩, fun k hk => ⟨by omega, by omega⟩, by simp [Value.ownBlock]⟩, fun k hk => hk.2⟩
theorem RfT.new_not (m : Int) (w : World) (hm : ¬ (1 ≤ m ∧ m ≤ 65536)) : Calls Try.prog 9 #[.int .i64 m] w fun e w' => e = .returned (.pointer none) ∧ w = w' := by
  have HA := hid (RNew_not m 1 w (by omega))
  clear hm
  go_enter Try.func9, Try.ntmps9
  go_wp2_with fail
  refine HA.out.mono ?_
  rintro e w1 ⟨rfl, rfl⟩
  go_wp2
  go_ret
  exact ⟨rfl, rfl⟩
/-- At. -/
theorem RfT.at (h : RfT S w v s) (x : Int) : Calls Try.prog 16 #[v, .int .u64 x] w (TwAtP s.L x w) := by
  obtain ⟨p, pa, Sa, u, rfl, h2, h3, _⟩ := h
  exact twat_any h2 h3.len x
/-- Living. -/
theorem RfT.live (h : RfT S w v s) (t : Int) : Calls Try.prog 26 #[v, .int .u64 t] w (TwLivP s.L t w) := by
  obtain ⟨p, pa, Sa, u, rfl, h2, h3, _⟩ := h
  exact twlive_any h2 h3.len t
/-- Of: as the table's own. -/
theorem RfT.of (h : RfT S w v s) {t : Int} (ht : U64 t) {s' : Ws} {x er : Int} (hr : WkOf s t s' x er) (he : er ≠ 4) : Calls Try.prog 24 #[v, .int .u64 t] w fun e w' => e = .returned (.int .u64 x) ∧ Fr S w w' ∧ RfT (exS S w w') w' v s' := by
  have hcopy := h
  have hinv := hr.inv h.ok ht
  obtain ⟨p, pa, Sa, u, rfl, h2, h3, ⟨h5, h6, h7⟩, h9⟩ := h
  cases hr with
  | up b hl hn =>
    obtain ⟨b1, b2, b3⟩ := lv_some hl
    have hb := h3.bd b b1
    refine (twof_up h2 h3.nd h3.len hl (fun c hc hd e => h3.one c hc b b1 hd b3 (e.trans b2.symm)) (by omega)).mono ?_
    rintro e w' ⟨rfl, hw, hf⟩
    have := hf.size
    exact ⟨rfl, hf.mono (fun k e _ => h7 k e), RfT.wider ⟨p, pa, Sa, u, rfl, hw, hinv, ⟨h5, h6, h7⟩, fun k hk => Nat.lt_of_lt_of_le (h9 k hk) this⟩⟩
  | top => exact absurd rfl he
  | full hl hF =>
    refine (twof_full h2 h3.len hl hF).mono ?_
    rintro e w' ⟨rfl, rfl⟩
    exact ⟨rfl, Fr.refl _ _, hcopy.wider⟩
  | new hl hp =>
    refine (twof_new h2 h3.len hl hp h3.ok).mono ?_
    rintro e w' ⟨rfl, Sa', u', hw, ha, hu, hf⟩
    refine ⟨rfl, hf.mono (fun k e _ => ?_), p, pa, Sa', u', rfl, hw, hinv, ⟨.inl h5, fun k hk => ?_, fun k hk => ?_⟩, fun k hk => ?_⟩
    · rcases e with e | e | e
      · exact h6 k e
      · exact e ▸ h5
      · exact h7 k e
    · rcases ha k hk with e | e
      · exact .inl (h6 k e)
      · exact .inr e
    · rcases hu k hk with e | e
      · exact .inl (h7 k e)
      · exact .inr e
    · rcases hk with hk | hk
      · exact Nat.lt_of_lt_of_le (h9 k hk) hf.size
      · exact hk.2
/-- Down, of the one at a place. -/
theorem RfT.dn (h : RfT S w v s) {i : Nat} {b : Bl} (hb : s.L[i]? = some b) {s' : Ws} {n er : Int} (hr : WkDn s b.h s' n er) : Calls Try.prog 25 #[v, .int .i64 i] w fun e w' => e = .returned (.int .u32 n) ∧ Fr S w w' ∧ RfT (exS S w w') w' v s' := by
  have hinv := hr.inv h.ok
  obtain ⟨p, pa, Sa, u, rfl, h2, h3, ⟨h5, h6, h7⟩, h9⟩ := h
  have hbm := List.mem_of_getElem? hb
  have hfb := fb_mem h3.nd hbm
  have hbd := h3.bd b hbm
  cases hr with
  | stale hf => rw [hfb] at hf; cases hf
  | more c hf hn =>
    rw [hfb] at hf
    cases hf
    refine (twdown_more h2 h3.nd h3.len hb (by omega)).mono ?_
    rintro e w' ⟨rfl, hw, hf⟩
    have := hf.size
    exact ⟨rfl, hf.mono (fun k e _ => h7 k e), RfT.wider ⟨p, pa, Sa, u, rfl, hw, hinv, ⟨h5, h6, h7⟩, fun k hk => Nat.lt_of_lt_of_le (h9 k hk) this⟩⟩
  | last c hf hn ha =>
    rw [hfb] at hf
    cases hf
    refine (twdown_last h2 h3.nd h3.len hb hn ha h3.ok).mono ?_
    rintro e w' ⟨rfl, Sa', u', hw, ha', hu, hf⟩
    refine ⟨rfl, hf.mono (fun k e _ => ?_), p, pa, Sa', u', rfl, hw, hinv, ⟨.inl h5, fun k hk => ?_, fun k hk => ?_⟩, fun k hk => ?_⟩
    · rcases e with e | e | e
      · exact h6 k e
      · exact e ▸ h5
      · exact h7 k e
    · rcases ha' k hk with e | e
      · exact .inl (h6 k e)
      · exact .inr e
    · rcases hu k hk with e | e
      · exact .inl (h7 k e)
      · exact .inr e
    · rcases hk with hk | hk
      · exact Nat.lt_of_lt_of_le (h9 k hk) hf.size
      · exact hk.2
/-- One of the list, where it lies: what of it may be read, and written. -/
theorem RfT.thing {p : Nat} (h : RfT S w (.pointer (some ⟨p, 0, none⟩)) s) {i : Nat} {b : Bl} (hb : s.L[i]? = some b) :
    ∃ g n k, w.cell? ⟨p, 1, none⟩ = some (.slice (some ⟨g, 0, none⟩) n k) ∧ i < n ∧ n ≤ 65536 ∧ S g ∧ g ≠ p ∧ w.cell? ⟨g, i * 4 + 1, none⟩ = some (.int .u64 b.t) ∧ w.cell? ⟨g, i * 4 + 2, none⟩ = some (.bool b.dead) ∧ w.cell? ⟨g, i * 4 + 3, none⟩ = some (.int .u32 b.n) ∧ (∀ j, w.frozen? ⟨g, j, none⟩ = false) ∧
      (∀ x, 1 ≤ x → x ≤ 4294967295 → RfT S (w.setCell ⟨g, i * 4 + 3, none⟩ (.int .u32 x)) (.pointer (some ⟨p, 0, none⟩)) { s with L := setn s.L b.h x }) ∧ RfT S (w.setCell ⟨g, i * 4 + 2, none⟩ (.bool true)) (.pointer (some ⟨p, 0, none⟩)) { s with L := kill s.L b.h } := by
  obtain ⟨p', pa, Sa, u, e, h2, h3, ⟨h5, h6, h7⟩, h9⟩ := h
  cases e
  obtain ⟨g, k, rfl⟩ := h2.form hb
  have g1 := h2.at hb rfl 1 (by omega)
  have g2 := h2.at hb rfl 2 (by omega)
  have g3 := h2.at hb rfl 3 (by omega)
  simp only [Bl.cells, List.getElem?_cons_succ, List.getElem?_cons_zero] at g1 g2 g3
  have hsz : ∀ u : Value, ∀ a : Addr, (w.setCell a u).heap.size = w.heap.size := fun u a => by simp
  refine ⟨g, s.L.length, k, h2.c1, (List.getElem?_eq_some_iff.1 hb).1, h3.len, h7 g rfl, fun e => h2.d2 (by rw [e]; rfl), g1, g2, g3, fun j => h2.fl rfl j, fun x hx1 hx2 => ?_, ?_⟩
  · obtain ⟨s1, _⟩ := h2.setL rfl hb (s' := { b with n := x }) 3 (.int .u32 x) (by omega) rfl
    rw [← setn_at h3.nd hb] at s1
    exact ⟨p, pa, Sa, _, rfl, s1, h3.cnts ⟨hx1, hx2⟩, ⟨h5, h6, h7⟩, fun q hq => by rw [hsz]; exact h9 q hq⟩
  · obtain ⟨s1, _⟩ := h2.setL rfl hb (s' := { b with dead := true }) 2 (.bool true) (by omega) rfl
    rw [← kill_at h3.nd hb] at s1
    exact ⟨p, pa, Sa, _, rfl, s1, h3.kill b.h, ⟨h5, h6, h7⟩, fun q hq => by rw [hsz]; exact h9 q hq⟩
/-- The places' twin, and what it tells. -/
theorem RfT.places {p : Nat} (h : RfT S w (.pointer (some ⟨p, 0, none⟩)) s) : ∃ pa, w.cell? ⟨p, 0, none⟩ = some (.pointer (some ⟨pa, 0, none⟩)) ∧ Calls Try.prog 12 #[.pointer (some ⟨pa, 0, none⟩)] w (RAllPost w s.A) := by
  obtain ⟨p', pa, Sa, u, e, h2, _⟩ := h
  cases e
  exact ⟨pa, h2.c0, RAll_any Sa w pa s.A h2.ar⟩
end
end Go.Proofs.Ytmampaglemleoab
