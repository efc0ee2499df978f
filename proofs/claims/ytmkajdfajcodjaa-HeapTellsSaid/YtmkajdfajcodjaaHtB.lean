/-
  The plain twin's Graph.
-/
import Derived.Test.YtmkajdfajcodjaaHtA
import Derived.Test.YtmkajdfajcodjaaHsJ
namespace Go.Proofs.Ytmkajdfajcodjaa
open Go Go.ChangeShapes Go.WideShapes Go.ChangeAt Go.RowKit

theorem allA_mem {s : Hs} (h : HOk s) {x : Int} (hx : x ∈ allA s.A) : ∃ o ∈ s.L, o.h = x := by
  unfold allA at hx
  obtain ⟨⟨sp, i⟩, hm, rfl⟩ := List.mem_map.1 hx
  obtain ⟨h1, h2⟩ := List.mem_filter.1 hm
  exact h.tak i sp (List.mem_zipIdx_iff_getElem?.1 h1) h2
theorem allA_fnd {s : Hs} (h : HOk s) {x : Int} (hx : x ∈ allA s.A) : ∃ o, fnd s.L x = some o := by
  obtain ⟨o, ho, rfl⟩ := allA_mem h hx
  exact ⟨o, fnd_mem h.nd ho⟩
theorem allA_nodup {A : Ar} (h : Ok A) : (allA A).Nodup := by
  unfold allA List.Nodup
  rw [List.pairwise_map]
  refine List.Pairwise.filter _ ?_
  have h1 : List.Pairwise (fun a b : Spot × Nat => a.2 < b.2) A.L.zipIdx := by
    have h2 := List.pairwise_lt_range' (s := 0) (n := A.L.length)
    rw [← List.zipIdx_map_snd, List.pairwise_map] at h2
    exact h2
  refine h1.imp_of_mem fun {a b} ha hb hab e => ?_
  have ha' := h.lt (List.mem_zipIdx_iff_getElem?.1 ha)
  have hb' := h.lt (List.mem_zipIdx_iff_getElem?.1 hb)
  have := (hand_inj2 (by omega) (by omega) e).1
  omega
theorem wls_nodup {A : Ar} (h : Ok A) (L : HL) : (wls A L).Nodup := (allA_nodup h).filter _
theorem mem_wls {s : Hs} (h : HOk s) {o : Ob} (ho : o ∈ s.L) (h0 : o.outer = 0) : o.h ∈ wls s.A s.L := by
  obtain ⟨i, sp, k1, k2, k3⟩ := h.has o ho
  unfold wls
  rw [List.mem_filter]
  refine ⟨?_, ?_⟩
  · unfold allA
    rw [List.mem_map]
    exact ⟨(sp, i), List.mem_filter.2 ⟨List.mem_zipIdx_iff_getElem?.2 k1, k2⟩, k3.symm⟩
  · rw [fnd_mem h.nd ho]
    exact decide_eq_true h0
theorem wls_is {s : Hs} {x : Int} (hx : x ∈ wls s.A s.L) : ∃ o, fnd s.L x = some o ∧ o.outer = 0 := by
  unfold wls at hx
  have := (List.mem_filter.1 hx).2
  cases hf : fnd s.L x with
  | none => rw [hf] at this; simp at this
  | some o => rw [hf] at this; exact ⟨o, rfl, by simpa using this⟩
theorem idx_iff {W : List Int} (hn : W.Nodup) {x y : Int} {i : Nat} (hi : W[i]? = some y) : y = x ↔ i = W.idxOf x ∧ x ∈ W := by
  have hlt := (List.getElem?_eq_some_iff.1 hi).1
  constructor
  · rintro rfl
    have hm := List.mem_of_getElem? hi
    refine ⟨?_, hm⟩
    have h1 := List.getElem_idxOf (List.idxOf_lt_length_of_mem hm)
    have h2 : W[i] = y := (List.getElem?_eq_some_iff.1 hi).2
    have h3 := List.pairwise_iff_getElem.1 hn
    by_cases hl : i < W.idxOf y
    · exact absurd (h2.trans h1.symm) (h3 _ _ hlt (List.idxOf_lt_length_of_mem hm) hl)
    · by_cases hg : W.idxOf y < i
      · exact absurd (h1.trans h2.symm) (h3 _ _ (List.idxOf_lt_length_of_mem hm) hlt hg)
      · omega
  · rintro ⟨rfl, hm⟩
    have h1 := List.getElem_idxOf (List.idxOf_lt_length_of_mem hm)
    have h2 := (List.getElem?_eq_some_iff.1 hi).2
    rw [← h2, h1]
/-- What a whole and its first inners hold. -/
def lksT (L : HL) (o : Ob) (j : Nat) : List Lk := o.links ++ (o.inners.take j).flatMap (linksOf L)
theorem lksT_succ {L : HL} {o : Ob} {j : Nat} {z : Int} (h : o.inners[j]? = some z) : lksT L o (j + 1) = lksT L o j ++ linksOf L z := by
  unfold lksT
  rw [List.take_add_one, h, List.flatMap_append, List.append_assoc]
  simp
theorem lksT_all (L : HL) (o : Ob) : lksT L o o.inners.length = lksW L o := by
  unfold lksT lksW
  rw [List.take_length]
theorem inners_len {top : Int} {L : HL} (hi : HIn top L) {o : Ob} (ho : o ∈ L) : o.inners.length ≤ L.length := by
  have h1 : o.inners ⊆ L.map (·.h) := fun z hz => by
    obtain ⟨oz, h2, h3, _⟩ := hi.inn o ho z hz
    exact List.mem_map.2 ⟨oz, h2, h3⟩
  have := (hi.idp o ho).length_le_of_subset h1
  rwa [List.length_map] at this
theorem lksT_len {top : Int} {L : HL} (hi : HIn top L) {o : Ob} (ho : o ∈ L) (j : Nat) : (lksT L o j).length ≤ 8 + L.length * 8 := by
  unfold lksT
  rw [List.length_append]
  have h1 := (hi.lnk o ho).1
  have h2 := links_len8 hi (o.inners.take j)
  have h3 := inners_len hi ho
  rw [List.length_take] at h2
  have h4 : min j o.inners.length * 8 ≤ L.length * 8 := Nat.mul_le_mul_right 8 (by omega)
  omega
theorem own_form2 {w : World} {B k n : Nat} {T : TypeId} {v : Value} {xs : List Value} (h : w.ownsRow B T k v n xs) : ∃ a c, v = .slice a n c := by
  rcases h.2 with ⟨h1, h2⟩ | ⟨g, cap, _, h1, _⟩
  · exact ⟨none, 0, by rw [h1, h2]⟩
  · exact ⟨_, cap, h1⟩
theorem edg1_len (L : HL) (W : List Int) (l : Lk) : (edg1 L W l).length ≤ 1 := by
  unfold edg1
  split
  · split <;> simp
  · simp
theorem edgs_len (L : HL) (W : List Int) {P : List Lk} {n : Nat} (hn : P.length ≤ n) (t : Nat) : (edgs L W (P.take t)).length ≤ n := by
  have key : ∀ Q : List Lk, (edgs L W Q).length ≤ Q.length := by
    intro Q
    induction Q with
    | nil => simp [edgs]
    | cons a Q ih =>
      have := edg1_len L W a
      unfold edgs at ih ⊢
      rw [List.flatMap_cons, List.length_append, List.length_cons]
      omega
  have := key (P.take t)
  rw [List.length_take] at this
  omega
theorem addr_add0 (g m : Nat) : (⟨g, 0, none⟩ : Addr).add m = ⟨g, m, none⟩ := by
  unfold Addr.add
  split
  · rename_i h; subst h; rfl
  · simp
/-- The wholes among the first. -/
def isW (L : HL) (h : Int) : Bool := match fnd L h with | some o => decide (o.outer = 0) | none => false
def wlsT (A : Ar) (L : HL) (q : Nat) : List Int := ((allA A).take q).filter (isW L)
theorem wlsT_succ {A : Ar} {L : HL} {q : Nat} {h : Int} (e : (allA A)[q]? = some h) : wlsT A L (q + 1) = wlsT A L q ++ if isW L h = true then [h] else [] := by
  unfold wlsT
  rw [List.take_add_one, e, List.filter_append]
  congr 1
  cases hw : isW L h <;> simp [hw]
theorem wlsT_all {A : Ar} {L : HL} : wlsT A L (allA A).length = wls A L := by
  unfold wlsT wls
  rw [List.take_length]
  rfl
theorem wlsT_len (A : Ar) (L : HL) (q : Nat) : (wlsT A L q).length ≤ (allA A).length := by
  unfold wlsT
  exact Nat.le_trans (List.length_filter_le _ _) (by rw [List.length_take]; omega)
/-- An append of one cell. -/
theorem wpList_push1 {w : World} {ops : Array Oper} {rest : List Oper} {o : Oper} {a : Act} {Q : Exit → Act → World → Prop} (hg : o.guard = none) (s x : Operand) (t T : TypeId) {z : Value} {bts : Nat} (hu : Try.prog.underlying t = some (.slice T)) (hi : (Try.prog.info? T).map (fun i => (i.zero, i.size, i.bytes)) = some (some z, 1, bts)) (hz : z.cells.size = 1) (hb2 : bts ≤ 1000)
    (ho : o.op = Op.call { callee := Callee.builtin Builtin.append, args := #[s, x], argTypes := #[t, t] }) (B : Nat) (v : Value) (xs : List Value) (y : Value) (hs : a.eval s = v) (hown : w.ownsRow B T 1 v xs.length xs) (g c : Nat) (hx : a.eval x = .slice (some ⟨g, 0, none⟩) 1 c)
    (hc : w.cell? ⟨g, 0, none⟩ = some y) (hy : y.oneCell' = true) (hl : xs.length ≤ 1000000) (hB : B ≤ w.heap.size)
    (hK : ∀ v' w', w'.ownsRow B T 1 v' (xs ++ [y]).length (xs ++ [y]) → w.grownBy w' v.ownBlock → (v'.ownBlock = v.ownBlock ∨ v'.ownBlock = some w.heap.size) → wpList Try.prog ops Q rest (a.put o.dst v') w') : wpList Try.prog ops Q (o :: rest) a w := by
  obtain ⟨v', w', r1, r2, r3, r4⟩ := run_push1 t o.type T hu hi hz hb2 B v xs y hown g c hc hy hl hB
  exact wpList_append_v hg s x t ho v _ v' w' hs hx r1 (hK v' w' r2 r3 r4)
theorem graph_ret {Q : Ending → World → Prop} {tmps : Array Value} {W : World} {g : Nat} {cv ev u : Value} (h2 : tmps.getD 2 undef = .pointer (some ⟨g, 0, none⟩)) (h3 : tmps.getD 3 undef = u) (hg : W.heap[g]? = some (.cells #[cv, ev] TGr (0, 0))) (hq : Q (.returned (.tuple #[.agg #[cv, ev], u])) W) :
    bodyPost Try.prog Try.f18 Q Exit.ret { tmps := tmps, defers := [] } W := by
  refine bodyPost_ret (a := { tmps := tmps, defers := [] }) (v := .tuple #[.agg #[cv, ev], u]) ?_ rfl hq
  rw [Go.Proofs.Ytmkajdfajcodjaa.results_cell_tmp (fn := Try.f18) (p := 2) (q := 3) rfl tmps W g TGr #[cv, ev] (0, 0) _ h2 hg Try.underlying42 rfl (by kernel_rfl), h3]
theorem exec_mkU {o : Oper} {f : Operand → Value} {W : World} {p : Operand} {v : Value} (ho : o.op = .buildSlice 39 1 #[(0, p)]) (hp : f p = v) (h1 : ∃ x, v = .int .u32 x) :
    (execOp f o).run Try.prog W = .ok (.value (.slice (some ⟨W.heap.size, 0, none⟩) 1 1)) (W.alloc (.cells #[v] TU32)) := by
  obtain ⟨x, rfl⟩ := h1
  unfold execOp
  simp only [ho]
  go_simp
theorem exec_app {o : Oper} {f : Operand → Value} {W w' : World} {s x : Operand} {t : TypeId} {v u v' : Value} (ho : o.op = .call { callee := .builtin .append, args := #[s, x], argTypes := #[t, t] }) (hs : f s = v) (hx : f x = u) (hr : (Builtin.append_ #[t, t] o.type #[v, u]).run Try.prog W = .ok v' w') : (execOp f o).run Try.prog W = .ok (.value v') w' := by
  unfold execOp
  simp only [ho, resolve, invoke, builtin, Sem.run_bind, Sem.run_pure, Result.andThen_ok, List.map_toArray, List.map_cons, List.map_nil, hs, hx, hr]
set_option maxRecDepth 100000 in
set_option maxHeartbeats 8000000 in
theorem RfGraph_any (S : Nat → Prop) (w : World) (px : Nat) (s : Hs) (h : RfH S w (.pointer (some ⟨px, 0, none⟩)) s) (hm : s.A.most ≤ 256) :
    Calls Try.prog 18 #[.pointer (some ⟨px, 0, none⟩)] w fun e w' => ∃ cv ev wv, e = .returned (.tuple #[.agg #[cv, ev], wv]) ∧ Tl u64v w'.heap.size w' wv (wls s.A s.L) ∧ GrT w'.heap.size w' cv ev ((wls s.A s.L).map (cntH s.L)) ((wls s.A s.L).map (lstH s.L (wls s.A s.L))) ∧ Below w.heap.size w w' := by
  obtain ⟨pa, hpxl, hpa, hall⟩ := h.all
  obtain ⟨p, pa', Sa, F, B, lv, e, h1, h3, h4, h5⟩ := h
  cases e
  have hLl := h3.len
  have hAl := allA_len h3.ok.aok hm
  obtain ⟨w1, hw1⟩ : ∃ w1, w1 = w.alloc (.cells #[.slice none 0 0, .slice none 0 0] TGr) := ⟨_, rfl⟩
  have hb1 : Below w.heap.size w w1 := by rw [hw1]; exact (Below.refl _ _).alloc (Nat.le_refl _) _
  have hpa1 : w1.cell? ⟨px, 1, none⟩ = some (.pointer (some ⟨pa, 0, none⟩)) := (World.cell?_of_block (w := w) (w' := w1) (a := ⟨px, 1, none⟩) (hb1.block px hpxl)).trans hpa
  have HALL := hid (hall w1 (Fr.of_below hb1))
  have HB1 := hid hb1
  have HW1 := hid hw1
  have HH := hid h1
  have HSI := hid h3
  clear hall hb1 hw1 h1 h3 h4 h5 hpa
  go_enter Try.func18, Try.ntmps18
  go_upto_region 1 with fail
  rw [← HW1.out]
  go_wp2_with fail
  refine HALL.out.mono ?_
  rintro e w2 ⟨hb2, v2, rfl, t2⟩
  obtain ⟨aa, ac, rfl, hac1, hac2, hAx⟩ := t2.ex
  obtain ⟨na, hna⟩ : ∃ na, na = (allA s.A).length := ⟨_, rfl⟩
  rw [← hna] at hac1 hAx hAl ⊢
  have HNA := hid hna
  have HAX := hid hAx
  have HB2 := hid (HB1.out.trans (hb2.mono HB1.out.size))
  have HG1 := hid (hb2.block w.heap.size (by rw [HW1.out]; simp))
  clear hna hAx hb2 HALL HB1 t2
  go_wp2_with fail
  go_loopw [6, 4] (fun i v wr => ∃ q : Nat, q ≤ na ∧ i = .int .i64 q ∧ RowKit.Hid (wr.ownsRow w2.heap.size TU 1 v (wlsT s.A s.L q).length ((wlsT s.A s.L q).map u64v)) ∧ RowKit.Hid (Below w2.heap.size w2 wr)) (fun i _ _ => na - (intOf i).toNat)
  case atStart => exact ⟨0, by omega, rfl, hid (World.ownsRow_nil _ _ _ _), hid (Below.refl _ _)⟩
  case round =>
    obtain ⟨q, hq, rfl, HR, HB⟩ := hrel
    by_cases hqn : q < na
    · have hlt : q < (allA s.A).length := by rw [← HNA.out]; exact hqn
      have hx : (allA s.A)[q]? = some (allA s.A)[q] := List.getElem?_eq_getElem hlt
      generalize (allA s.A)[q] = x at hx
      obtain ⟨b, o, rfl, hb, hat⟩ := HAX.out (by omega)
      have cx : wr.cell? ⟨b, o + q, none⟩ = some (.int .u64 x) := (World.cell?_of_block (w := w2) (w' := wr) (a := ⟨b, o + q, none⟩) (HB.out.block b hb)).trans (hat q (u64v x) (by rw [List.getElem?_map, hx]; rfl))
      obtain ⟨ob, hf⟩ := allA_fnd HSI.out.ok (List.mem_of_getElem? hx)
      obtain ⟨hob1, hob2⟩ := fnd_some hf
      have hRr := HH.out.no (Fr.of_below (fp := fun _ => False) (HB2.out.trans (HB.out.mono HB2.out.size)))
      have HF := hid (RFind_some hRr (by omega) hf)
      obtain ⟨sv, iv, hrc⟩ := hRr.ob ob hob1
      have co := hrc.c1
      rw [hob2] at co
      have HX := hid hx
      have HOB := hid hf
      obtain ⟨bx, hbx⟩ : ∃ bx, bx = B x := ⟨_, rfl⟩
      rw [← hbx] at co HF
      obtain ⟨ou, hou⟩ : ∃ ou, ou = ob.outer := ⟨_, rfl⟩
      rw [← hou] at co
      have HOU := hid hou
      clear hx hat hf hob1 hob2 hRr hrc hbx hou hlt hb
      by_cases h0 : ou = 0
      · subst h0
        have hst := wlsT_succ (L := s.L) HX.out
        rw [if_pos (by unfold isW; rw [HOB.out]; exact decide_eq_true HOU.out.symm)] at hst
        have HST := hid hst
        have HLN := hid (show (wlsT s.A s.L q).length ≤ 256 from Nat.le_trans (wlsT_len _ _ _) (by rw [← HNA.out]; exact hAl))
        obtain ⟨va, vc, hva⟩ := own_form HR.out
        subst hva
        clear hst
        obtain ⟨ln, hln⟩ : ∃ ln, ln = (wlsT s.A s.L q).length := ⟨_, rfl⟩
        have HR2 := hid (show wr.ownsRow w2.heap.size TU 1 (.slice va ln vc) ((wlsT s.A s.L q).map u64v).length ((wlsT s.A s.L q).map u64v) by have h := HR.out; rw [← hln] at h; rw [List.length_map, ← hln]; exact h)
        rw [← hln]
        have HLEN := hid hln
        clear hln HR
        go_wp2_with fail
        refine HF.out.mono ?_
        rintro e w' ⟨rfl, rfl⟩
        go_wp2_with (first
          | (at_builtin; go_loud (refine wpList_push1 (o := ⟨some 42, _, _, _, _, _⟩) rfl (.tmp 36) (.tmp 41) 43 TU Try.underlying43 infoUU rfl (by decide) rfl w2.heap.size _ ((wlsT s.A s.L q).map u64v) (u64v x) rfl (HR2.out.alloc _) wr.heap.size 1 rfl (by rw [cell_of_row _ _ 0 _ _ _ (heap_alloc_new wr _)]; rfl) rfl (by have := HLN.out; rw [List.length_map]; omega) (by have := HB.out.size; simp; omega) ?_); intro v5 w5 k1 k2 k3; have K1 := hid k1; have K2 := hid k2; clear k1 k2 k3)
          | fail)
        have hk1 := K1.out
        rw [show (wlsT s.A s.L q).map u64v ++ [u64v x] = (wlsT s.A s.L (q + 1)).map u64v by rw [HST.out, List.map_append]; rfl, List.length_map] at hk1
        have HR5 := hid hk1
        have HB5 := hid (show Below w2.heap.size w2 w5 from (HB.out.alloc HB.out.size _).grown K2.out (by have := HB.out.size; simp; omega) (fun k hk => (HR2.out.lt k hk).1))
        clear hk1 K1 K2 HR2 HB
        go_roundw
        case rel => exact ⟨q + 1, by omega, by go_num, HR5, HB5⟩
        case measure => simp [intOf]; omega
      · have hq0 : (ou == 0) = false := by simpa using h0
        have hst := wlsT_succ (L := s.L) HX.out
        rw [if_neg (by unfold isW; rw [HOB.out]; simp only [decide_eq_true_eq]; rw [← HOU.out]; exact h0), List.append_nil] at hst
        have HR5 := hid (show wr.ownsRow w2.heap.size TU 1 u4 (wlsT s.A s.L (q + 1)).length ((wlsT s.A s.L (q + 1)).map u64v) by rw [hst]; exact HR.out)
        clear hst HR h0
        go_wp2_with fail
        refine HF.out.mono ?_
        rintro e w' ⟨rfl, rfl⟩
        go_wp2_with fail
        go_roundw
        case rel => exact ⟨q + 1, by omega, by go_num, HR5, HB⟩
        case measure => simp [intOf]; omega
    · obtain ⟨wA, hwA⟩ : ∃ x, x = wr := ⟨_, rfl⟩
      subst hwA
      have hqe : q = na := by omega
      have hr := HR.out
      rw [hqe, HNA.out, wlsT_all] at hr
      have hWl : (wls s.A s.L).length ≤ 256 := by rw [← wlsT_all]; exact Nat.le_trans (wlsT_len _ _ _) (by rw [← HNA.out]; exact hAl)
      obtain ⟨W, hW⟩ : ∃ W, W = wls s.A s.L := ⟨_, rfl⟩
      rw [← hW] at hr hWl
      obtain ⟨wa, wc, hwa⟩ := own_form hr
      subst hwa
      obtain ⟨nw, hnw⟩ : ∃ nw, nw = W.length := ⟨_, rfl⟩
      rw [← hnw] at hWl hr ⊢
      have HWE := hid hW
      have HNW := hid hnw
      obtain ⟨a1, c1, e1, hwc1, hwc2, hWx⟩ := (tl_own hr).ex
      simp only [Value.slice.injEq] at e1
      obtain ⟨rfl, e1b, rfl⟩ := e1
      clear e1b
      rw [← hnw] at hwc1 hWx
      have HWR := hid (tl_own hr)
      have HWO1 := hid (show wA.ownsRow w2.heap.size TU 1 (.slice wa nw wc) nw (W.map u64v) from hr)
      have hg1s : w2.heap[w.heap.size]? = some (.cells #[.slice none 0 0, .slice none 0 0] TGr (0, 0)) := HG1.out.trans (by rw [HW1.out]; exact heap_alloc_new _ _)
      have HG1L := hid (show w.heap.size < w2.heap.size from (Array.getElem?_eq_some_iff.1 hg1s).1)
      have HG1A := hid ((HB.out.block _ HG1L.out).trans hg1s)
      have HWX := hid hWx
      obtain ⟨y, hy⟩ : ∃ y, y = wA.heap.size := ⟨_, rfl⟩
      obtain ⟨w3, hw3⟩ : ∃ w3, w3 = wA.alloc (.cells #[.slice none 0 0, .slice none 0 0] TGr) := ⟨_, rfl⟩
      have hb3 : Below wA.heap.size wA w3 := by rw [hw3]; exact (Below.refl _ _).alloc (Nat.le_refl _) _
      have hy3 : w3.heap[y]? = some (.cells #[.slice none 0 0, .slice none 0 0] TGr (0, 0)) := by rw [hw3, hy]; exact heap_alloc_new _ _
      have hG3 : GI wA.heap.size w3 y (fun _ => 1) (.slice none 0 0) (.slice none 0 0) ((W.take 0).map (cntH s.L)) [] ((W.take 0).map (lstH s.L W)) :=
        ⟨hy3, World.ownsRow_nil _ _ _ _, World.ownsRow_nil _ _ _ _, by simp, fun i v t h _ => by simp at h, rfl, fun k hk => by simp [Value.ownBlock] at hk, fun k hk => by simp [Value.ownBlock] at hk, by omega, fun _ _ => by simp⟩
      have HG3 := hid hG3
      have HB03 := hid (HB2.out.trans (HB.out.mono HB2.out.size))
      have HB33 := hid hb3
      have HW3 := hid hw3
      have HYE := hid hy
      clear hW hnw hr hg1s hWx hy hw3 hb3 hy3 hG3 HR HB hqe
      go_upto_region 9 with fail
      rw [← HW3.out, ← HYE.out]
      clear HW3
      go_wp2_with fail
      go_loopw [8] (fun i wx => ∃ (k : Nat) (F : Nat → Nat) (cv ev : Value) (vs : List Value), k ≤ nw ∧ i = .int .i64 k ∧ RowKit.Hid (GI wA.heap.size wx y F cv ev ((W.take k).map (cntH s.L)) vs ((W.take k).map (lstH s.L W))) ∧ RowKit.Hid (Below wA.heap.size wA wx)) (fun i _ => nw - (intOf i).toNat)
      case atStart => exact ⟨0, _, _, _, _, by omega, rfl, HG3, HB33⟩
      case round =>
        obtain ⟨wx, hwx⟩ : ∃ x, x = wr := ⟨_, rfl⟩
        subst hwx
        obtain ⟨k, G, cv, ev, vs, hk, rfl, HR, HB⟩ := hrel
        by_cases hkn : k < nw
        · have hlt : k < W.length := by rw [← HNW.out]; exact hkn
          have hx : W[k]? = some W[k] := List.getElem?_eq_getElem hlt
          generalize W[k] = x at hx
          obtain ⟨b, o, rfl, hb, hat⟩ := HWX.out (by omega)
          have cx : wx.cell? ⟨b, o + k, none⟩ = some (.int .u64 x) := (World.cell?_of_block (w := wA) (w' := wx) (a := ⟨b, o + k, none⟩) (HB.out.block b hb)).trans (hat k x hx)
          obtain ⟨ob, hf, hb0⟩ := wls_is (s := s) (x := x) (by rw [← HWE.out]; exact List.mem_of_getElem? hx)
          obtain ⟨hob1, hob2⟩ := fnd_some hf
          have hbx := HB03.out.trans (HB.out.mono HB03.out.size)
          have hRr := HH.out.no (Fr.of_below (fp := fun _ => False) hbx)
          have HF := hid (RFind_some hRr (by omega) hf)
          obtain ⟨sv, iv, hrc⟩ := hRr.ob ob hob1
          have HX := hid hx
          have HOB := hid hf
          have HOM := hid hob1
          obtain ⟨bx, hbe⟩ : ∃ bx, bx = B ob.h := ⟨_, rfl⟩
          rw [← hob2, ← hbe] at HF
          rw [← hbe] at hrc
          rw [hob2] at HF
          have HRC := hid hrc
          have HBX := hid hbx
          have HBE := hid hbe
          clear hx hat hf hob1 hRr hbe hlt hb hbx
          have c4 := hrc.c4
          have c5 := hrc.c5
          obtain ⟨la, lc, hla⟩ := own_form hrc.hs
          obtain ⟨ia, ic, hia⟩ := own_form hrc.hi
          obtain ⟨ni, hni⟩ : ∃ ni, ni = ob.inners.length := ⟨_, rfl⟩
          obtain ⟨nl, hnl⟩ : ∃ nl, nl = ob.links.length := ⟨_, rfl⟩
          obtain ⟨j0, hj, hy0, hy1, hy2⟩ := info_parts infoLkB
          have hl8 := (HSI.out.inv.lnk ob HOM.out).1
          obtain ⟨pa0, pc0, w5, r1, r2, r3, r4⟩ := append_links (t := 77) (ty := 77) Try.underlying77 hj hy0 hy1 hy2 (World.ownsRow_nil wx wx.heap.size 67 2) hrc.hs (by omega) (Nat.le_refl _)
          simp only [Nat.zero_add, List.nil_append] at r1 r2 r4
          have hb5 : Below wx.heap.size wx w5 := (Below.refl _ _).grown r3 (Nat.le_refl _) (fun k hk => by simp [Value.ownBlock] at hk)
          have HR1 := hid r1
          have HB5 := hid hb5
          have hP0 : ob.links = ob.links ++ (ob.inners.take 0).flatMap (linksOf s.L) := by simp
          rw [hla, ← hnl] at c4
          rw [hia, ← hni] at c5
          rw [hla, ← hnl] at HR1
          have HO5 := hid (show w5.ownsRow wx.heap.size 67 2 (.slice pa0 nl pc0) (ob.links ++ (ob.inners.take 0).flatMap (linksOf s.L)).length (lkv (ob.links ++ (ob.inners.take 0).flatMap (linksOf s.L))) by rw [← hP0, hnl]; exact r2)
          have HNI := hid hni
          have HIA := hid (show iv = .slice ia ni ic by rw [hia, hni])
          clear hrc hla hia hni hnl hj hy0 hy1 hy2 r1 r2 r3 r4 hb5 hP0
          go_wp2_with fail
          refine HF.out.mono ?_
          rintro e w' ⟨rfl, rfl⟩
          go_wp2_with ((with_reducible refine at_op ⟨some 60, _, _, _, _, _⟩ ?_); refine wpList_append_v rfl (.tmp 55) (.tmp 59) 77 rfl _ _ _ w5 rfl rfl HR1.out ?_)
          have HIX := hid (show 0 < ni → ∃ b o, ia = some ⟨b, o, none⟩ ∧ b < wx.heap.size ∧ ∀ j z, ob.inners[j]? = some z → wx.cell? ⟨b, o + j, none⟩ = some (u64v z) by
            obtain ⟨a2, c2, e2, _, _, h2⟩ := (tl_own HRC.out.hi).ex
            rw [HIA.out] at e2
            simp only [Value.slice.injEq] at e2
            obtain ⟨rfl, e3, _⟩ := e2
            rw [← e3] at h2
            exact h2)
          have hni2 : ni ≤ 65536 := by have := inners_len HSI.out.inv HOM.out; rw [HNI.out]; omega
          have hbxl := HRC.out.lt
          clear HR1 HF cx c4
          go_wp2_with fail
          go_loopw [10, 11] (fun v i wr => ∃ j : Nat, j ≤ ni ∧ i = .int .i64 j ∧ RowKit.Hid (wr.ownsRow wx.heap.size 67 2 v (lksT s.L ob j).length (lkv (lksT s.L ob j))) ∧ RowKit.Hid (Below wx.heap.size wx wr)) (fun _ i _ => ni - (intOf i).toNat)
          case atStart => exact ⟨0, by omega, rfl, HO5, HB5⟩
          case round =>
            obtain ⟨wy, hwy⟩ : ∃ x, x = wr := ⟨_, rfl⟩
            subst hwy
            obtain ⟨j, hj, rfl, HP, HBY⟩ := hrel
            have c5y : wy.cell? ⟨bx, 5, none⟩ = some (.slice ia ni ic) := (World.cell?_of_block (w := wx) (w' := wy) (a := ⟨bx, 5, none⟩) (HBY.out.block bx hbxl)).trans c5
            by_cases hjn : j < ni
            · have hlt : j < ob.inners.length := by rw [← HNI.out]; exact hjn
              have hz : ob.inners[j]? = some ob.inners[j] := List.getElem?_eq_getElem hlt
              generalize ob.inners[j] = z at hz
              obtain ⟨ib, io, rfl, hib, hic⟩ := HIX.out (by omega)
              have ci : wy.cell? ⟨ib, io + j, none⟩ = some (.int .u64 z) := (World.cell?_of_block (w := wx) (w' := wy) (a := ⟨ib, io + j, none⟩) (HBY.out.block ib hib)).trans (hic j z hz)
              obtain ⟨oz, hoz, hozh, _⟩ := HSI.out.inv.inn ob HOM.out z (List.mem_of_getElem? hz)
              have hfz : fnd s.L z = some oz := by rw [← hozh]; exact fnd_mem HSI.out.inv.nd hoz
              have hRr := HH.out.no (Fr.of_below (fp := fun _ => False) (HBX.out.trans (HBY.out.mono HBX.out.size)))
              have HF := hid (RFind_some hRr (by omega) hfz)
              obtain ⟨sz, iz, hrz⟩ := hRr.ob oz hoz
              rw [hozh] at hrz
              obtain ⟨bz, hbz⟩ : ∃ bz, bz = B z := ⟨_, rfl⟩
              rw [← hbz] at hrz HF
              have c4z := hrz.c4
              obtain ⟨j0, hj0, hy0, hy1, hy2⟩ := info_parts infoLkB
              have hl8z := (HSI.out.inv.lnk oz hoz).1
              have hPl := lksT_len HSI.out.inv HOM.out j
              obtain ⟨va, vc, hva⟩ := own_form2 HP.out
              subst hva
              obtain ⟨np, hnp⟩ : ∃ np, np = (lksT s.L ob j).length := ⟨_, rfl⟩
              have hPP := HP.out
              rw [← hnp] at hPP hPl ⊢
              obtain ⟨pa1, pc1, w6, r1, r2, r3, r4⟩ := append_links (t := 77) (ty := 77) Try.underlying77 hj0 hy0 hy1 hy2 hPP hrz.hs (by omega) (by have := HBY.out.size; omega)
              have hb6 : Below wx.heap.size wx w6 := HBY.out.grown r3 HBY.out.size (fun k hk => (hPP.lt k hk).1)
              have hnext : lksT s.L ob (j + 1) = lksT s.L ob j ++ oz.links := by rw [lksT_succ hz, linksOf_some hfz]
              have HR6 := hid (show w6.ownsRow wx.heap.size 67 2 (.slice pa1 (np + oz.links.length) pc1) (lksT s.L ob (j + 1)).length (lkv (lksT s.L ob (j + 1))) by rw [hnext, List.length_append, ← hnp, lkv_app]; exact r2)
              have HB6 := hid hb6
              obtain ⟨la2, lc2, hla2⟩ := own_form2 hrz.hs
              rw [hla2] at c4z r1
              obtain ⟨nz, hnz⟩ : ∃ nz, nz = oz.links.length := ⟨_, rfl⟩
              rw [← hnz] at c4z r1 HR6
              have HR1 := hid r1
              clear hz hic hoz hozh hfz hRr hrz hbz hj0 hy0 hy1 hy2 hl8z hPP hnp r1 r2 r3 r4 hb6 hnext hla2 hnz hlt hib HP
              go_wp2_with fail
              refine HF.out.mono ?_
              rintro e w' ⟨rfl, rfl⟩
              go_wp2_with ((with_reducible refine at_op ⟨some 83, _, _, _, _, _⟩ ?_); refine wpList_append_v rfl (.tmp 70) (.tmp 82) 77 rfl _ _ _ w6 rfl rfl HR1.out ?_)
              go_roundw
              case rel => exact ⟨j + 1, by omega, by go_num, HR6, HB6⟩
              case measure => simp [intOf]; omega
            · obtain ⟨w6, hw6⟩ : ∃ x, x = wy := ⟨_, rfl⟩
              subst hw6
              have hje : j = ni := by omega
              have hPP := HP.out
              rw [hje, HNI.out, lksT_all] at hPP
              have hPl := lksT_len HSI.out.inv HOM.out ob.inners.length
              rw [lksT_all] at hPl
              obtain ⟨va, vc, hva⟩ := own_form2 HP.out
              rw [show (lksT s.L ob j).length = (lksW s.L ob).length by rw [hje, HNI.out, lksT_all]] at hva
              subst hva
              obtain ⟨P, hPe⟩ : ∃ P, P = lksW s.L ob := ⟨_, rfl⟩
              rw [← hPe] at hPP hPl ⊢
              obtain ⟨np, hnp⟩ : ∃ np, np = P.length := ⟨_, rfl⟩
              rw [← hnp] at hPP hPl ⊢
              have hPX : 0 < np → ∃ g, va = some ⟨g, 0, none⟩ ∧ g < w6.heap.size ∧ ∀ (t : Nat) l, P[t]? = some l → w6.cell? ⟨g, t * 2, none⟩ = some (.int .i64 l.kind) ∧ w6.cell? ⟨g, t * 2 + 1, none⟩ = some (.int .u64 l.h) := fun hp => by
                rcases hPP.2 with ⟨h1, h2⟩ | ⟨g, cap, cur, h1, h2, h3, _⟩
                · omega
                · simp only [Value.slice.injEq] at h1
                  obtain ⟨rfl, _, rfl⟩ := h1
                  refine ⟨g, rfl, (Array.getElem?_eq_some_iff.1 h3).1, fun t l ht => ?_⟩
                  have hc := hPP.cells (g := g) rfl
                  obtain ⟨k1, k2⟩ := lkv_at P t l ht
                  have e1 := hc _ _ k1
                  have e2 := hc _ _ k2
                  rw [addr_add0] at e1 e2
                  exact ⟨e1, e2⟩
              have HPX := hid hPX
              have HPE := hid hPe
              have HNP := hid hnp
              have HB6 := hid (HBX.out.trans (HBY.out.mono HBX.out.size))
              have HBY6 := hid HBY.out
              clear hPP hPX hPe hnp HP hje HIX c5
              go_wp2_with fail
              clear c5y
              go_loopw [12, 13] (fun v i wr => ∃ t : Nat, t ≤ np ∧ i = .int .i64 t ∧ RowKit.Hid (wr.ownsRow w6.heap.size TI 1 v (edgs s.L W (P.take t)).length ((edgs s.L W (P.take t)).map nI)) ∧ RowKit.Hid (Below w6.heap.size w6 wr)) (fun _ i _ => np - (intOf i).toNat)
              case atStart => exact ⟨0, by omega, rfl, hid (World.ownsRow_nil _ _ _ _), hid (Below.refl _ _)⟩
              case round =>
                obtain ⟨wz, hwz⟩ : ∃ x, x = wr := ⟨_, rfl⟩
                subst hwz
                obtain ⟨t, ht, rfl, HE, HBZ⟩ := hrel
                by_cases htn : t < np
                · have hlt : t < P.length := by rw [← HNP.out]; exact htn
                  have hl : P[t]? = some P[t] := List.getElem?_eq_getElem hlt
                  generalize P[t] = l at hl
                  obtain ⟨gp, rfl, hgp, hpc⟩ := HPX.out (by omega)
                  obtain ⟨q1, q2⟩ := hpc t l hl
                  have cl1 : wz.cell? ⟨gp, t * 2, none⟩ = some (.int .i64 l.kind) := (World.cell?_of_block (w := w6) (w' := wz) (a := ⟨gp, t * 2, none⟩) (HBZ.out.block gp hgp)).trans q1
                  have cl2 : wz.cell? ⟨gp, t * 2 + 1, none⟩ = some (.int .u64 l.h) := (World.cell?_of_block (w := w6) (w' := wz) (a := ⟨gp, t * 2 + 1, none⟩) (HBZ.out.block gp hgp)).trans q2
                  have HST := hid (edgs_take (L := s.L) (W := W) hl)
                  have HBZ0 := hid (HB6.out.trans (HBZ.out.mono HB6.out.size))
                  have hEl : (edgs s.L W (P.take t)).length ≤ np := edgs_len _ _ (Nat.le_of_eq HNP.out.symm) t
                  have hRr := HH.out.no (Fr.of_below (fp := fun _ => False) HBZ0.out)
                  have HRR := hid hRr
                  have HL := hid hl
                  obtain ⟨lk, hlk⟩ : ∃ lk, lk = l.kind := ⟨_, rfl⟩
                  obtain ⟨lh, hlh⟩ : ∃ lh, lh = l.h := ⟨_, rfl⟩
                  rw [← hlk] at cl1
                  rw [← hlh] at cl2
                  have HLK := hid hlk
                  have HLH := hid hlh
                  clear hl hpc hgp q1 q2 hRr hlk hlh hlt
                  by_cases hk1 : lk = 1
                  · subst hk1
                    cases hfl : fnd s.L lh with
                    | none =>
                      have HF := hid (RWhole_none HRR.out (by omega) hfl)
                      have hst := HST.out
                      rw [show edg1 s.L W l = [] by unfold edg1; rw [← HLH.out, (whl_none HSI.out.inv).2 hfl, ite_self], List.append_nil] at hst
                      have HE2 := hid (show wz.ownsRow w6.heap.size TI 1 _ (edgs s.L W (P.take (t + 1))).length ((edgs s.L W (P.take (t + 1))).map nI) by rw [hst]; exact HE.out)
                      clear hst hfl HE
                      go_wp2_with (first
                        | (go_at_call 44; (with_reducible refine HF.out.mono ?_); rintro e w' ⟨rfl, rfl⟩)
                        | fail)
                      go_roundw
                      case rel => exact ⟨t + 1, by omega, by go_num, HE2, HBZ⟩
                      case measure => simp [intOf]; omega
                    | some ol =>
                      obtain ⟨xo, hxo⟩ : ∃ xo, whl s.L lh = some xo := by
                        cases hw : whl s.L lh with
                        | none => rw [(whl_none HSI.out.inv).1 hw] at hfl; cases hfl
                        | some xo => exact ⟨xo, rfl⟩
                      obtain ⟨hxm, hx0⟩ := whl_some HSI.out.inv hxo
                      have HF := hid (RWhole_some HRR.out (by omega) HSI.out.inv hxo)
                      have hst := HST.out
                      rw [show edg1 s.L W l = [W.idxOf xo.h] by unfold edg1; rw [← HLH.out, hxo, if_pos HLK.out.symm]] at hst
                      have HWO := hid (fun (W' : World) (hB : Below w.heap.size w W') => RWhole_some (HH.out.no (Fr.of_below (fp := fun _ => False) hB)) (by omega) HSI.out.inv hxo)
                      have HXO := hid (HH.out.ob xo hxm)
                      obtain ⟨xh, hxh⟩ : ∃ xh, xh = xo.h := ⟨_, rfl⟩
                      obtain ⟨bo, hbo⟩ : ∃ bo, bo = B xo.h := ⟨_, rfl⟩
                      have HXH := hid hxh
                      have HBO := hid hbo
                      rw [← hbo] at HF HWO HXO
                      have hco : w.cell? ⟨bo, 0, none⟩ = some (.int .u64 xh) := by
                        obtain ⟨_, _, h⟩ := HXO.out
                        rw [h.c0, hxh]
                      have hbol : bo < w.heap.size := by
                        obtain ⟨_, _, h⟩ := HXO.out
                        exact h.lt
                      have HCO := hid hco
                      have hmem : xh ∈ W := by rw [hxh, HWE.out]; exact mem_wls HSI.out.ok hxm hx0
                      obtain ⟨m, hm0⟩ : ∃ m, m = W.idxOf xo.h := ⟨_, rfl⟩
                      rw [← hm0] at hst
                      have hmn : m < nw := by rw [hm0, ← hxh, HNW.out]; exact List.idxOf_lt_length_of_mem hmem
                      have HIDX := hid (show ∀ (r : Nat) z, W[r]? = some z → (z = xh ↔ r = m) from fun r z hr => by
                        have h1 := idx_iff (x := xh) (by rw [HWE.out]; exact wls_nodup HSI.out.ok.aok _) hr
                        rw [h1, hm0, hxh]
                        exact ⟨fun h => h.1, fun h => ⟨h, by rw [← hxh]; exact hmem⟩⟩)
                      have HST2 := hid hst
                      obtain ⟨E, hE⟩ : ∃ E, E = edgs s.L W (P.take t) := ⟨_, rfl⟩
                      rw [← hE] at HE HST2 hEl
                      have HCL := hid (show w6.cell? ⟨gp, t * 2 + 1, none⟩ = some (.int .u64 lh) ∧ gp < w6.heap.size from by
                        obtain ⟨g3, e3, h3, h4⟩ := HPX.out (by omega)
                        cases e3
                        exact ⟨by rw [HLH.out]; exact (h4 t l HL.out).2, h3⟩)
                      have HE0 := hid (show wz.ownsRow w6.heap.size TI 1 _ (E ++ if m < 0 then [m] else []).length ((E ++ if m < 0 then [m] else []).map nI) by rw [if_neg (Nat.not_lt_zero m), List.append_nil]; exact HE.out)
                      clear hfl hxo hxm hx0 hst hxh hbo hco hmem hm0 hE HE HXO HRR
                      go_wp2_with (first
                        | (go_at_call 44; (with_reducible refine HF.out.mono ?_); rintro e w' ⟨rfl, rfl⟩)
                        | fail)
                      clear cl1 cl2
                      go_loopw [12, 14] (fun v i wr => ∃ r : Nat, r ≤ nw ∧ i = .int .i64 r ∧ RowKit.Hid (wr.ownsRow w6.heap.size TI 1 v (E ++ if m < r then [m] else []).length ((E ++ if m < r then [m] else []).map nI)) ∧ RowKit.Hid (Below w6.heap.size w6 wr)) (fun _ i _ => nw - (intOf i).toNat)
                      case atStart => exact ⟨0, by omega, rfl, HE0, HBZ⟩
                      case round =>
                        obtain ⟨wq, hwq⟩ : ∃ x, x = wr := ⟨_, rfl⟩
                        subst hwq
                        obtain ⟨r, hr, rfl, HR5, HBQ⟩ := hrel
                        by_cases hrn : r < nw
                        · have hlt : r < W.length := by rw [← HNW.out]; exact hrn
                          have hz : W[r]? = some W[r] := List.getElem?_eq_getElem hlt
                          generalize W[r] = z at hz
                          obtain ⟨b2, o2, e2, hb2, hat2⟩ := HWX.out (by omega)
                          cases e2
                          have HBQ0 := hid (HB6.out.trans (HBQ.out.mono HB6.out.size))
                          have hAQ : Below wA.heap.size wA wq := HB.out.trans (((HBY6.out.mono (Nat.le_refl _)).trans (HBQ.out.mono HBY6.out.size)).mono HB.out.size)
                          have cz : wq.cell? ⟨b, o + r, none⟩ = some (.int .u64 z) := (World.cell?_of_block (w := wA) (w' := wq) (a := ⟨b, o + r, none⟩) (hAQ.block b hb2)).trans (hat2 r z hz)
                          have cl : wq.cell? ⟨gp, t * 2 + 1, none⟩ = some (.int .u64 lh) := (World.cell?_of_block (w := w6) (w' := wq) (a := ⟨gp, t * 2 + 1, none⟩) (HBQ.out.block gp HCL.out.2)).trans HCL.out.1
                          have co : wq.cell? ⟨bo, 0, none⟩ = some (.int .u64 xh) := (World.cell?_of_block (w := w) (w' := wq) (a := ⟨bo, 0, none⟩) (HBQ0.out.block bo hbol)).trans HCO.out
                          have HW2 := hid (HWO.out wq.drew HBQ0.out.drew)
                          have HZ := hid (HIDX.out r z hz)
                          clear hz hb2 hat2 hAQ hlt
                          go_wp2_with fail
                          refine D.wp_region_mix [0, 0, 0, 1, 0, 0, 0, 0, 0, 1, 2, 0, 0, 1, 0] (fun W => W.cell? ⟨b, o + r, none⟩ = some (.int .u64 z) ∧ W.cell? ⟨gp, t * 2 + 1, none⟩ = some (.int .u64 lh) ∧ W.cell? ⟨bo, 0, none⟩ = some (.int .u64 xh)) (by kernel_rfl) (by kernel_rfl) ⟨cz, cl, co⟩ ?_
                          repeat (first
                            | (refine' C.wpMix_value _ rfl rfl _ _; rotate_left; (solve | (intro W; go_simp) | (intro W; go_simp; with_reducible rfl)); simp only [Act.put, List.setIfInBounds_toArray, List.set_cons_zero, List.set_cons_succ])
                            | (refine' C.wpMix_read _ rfl rfl _ _; rotate_left; (solve | (rintro W ⟨h1, h2, h3⟩; go_simp) | (rintro W ⟨h1, h2, h3⟩; go_simp; with_reducible rfl)); simp only [Act.put, List.setIfInBounds_toArray, List.set_cons_zero, List.set_cons_succ]))
                          refine C.wpMix_call 44 #[.pointer (some ⟨px, 0, none⟩), .int .u64 lh] (by decide) rfl (by go_simp) ?_
                          refine HW2.out.mono ?_
                          rintro e w' ⟨rfl, rfl⟩
                          refine ⟨_, rfl, fun _ => ⟨cz, cl, co⟩, ?_⟩
                          simp only [Act.put, List.setIfInBounds_toArray, List.set_cons_zero, List.set_cons_succ]
                          repeat (first
                            | (refine' C.wpMix_value _ rfl rfl _ _; rotate_left; (solve | (intro W; go_simp) | (intro W; go_simp; with_reducible rfl)); simp only [Act.put, List.setIfInBounds_toArray, List.set_cons_zero, List.set_cons_succ])
                            | (refine' C.wpMix_read _ rfl rfl _ _; rotate_left; (solve | (rintro W ⟨h1, h2, h3⟩; go_simp) | (rintro W ⟨h1, h2, h3⟩; go_simp; with_reducible rfl)); simp only [Act.put, List.setIfInBounds_toArray, List.set_cons_zero, List.set_cons_succ]))
                          refine C.wpMix_end ?_
                          obtain ⟨wd, hwd⟩ : ∃ wd, wd = wq.drew := ⟨_, rfl⟩
                          have hbd : Below w6.heap.size w6 wd := by rw [hwd]; exact HBQ.out.drew
                          have hrd := (Fr.refl (fun _ => False) wq).drew.owns HR5.out (fun _ _ e => e)
                          rw [← hwd] at hrd
                          rw [← hwd]
                          have HBD := hid hbd
                          have HRD := hid hrd
                          clear hwd hbd hrd cz cl co HW2 HR5 HBQ HBQ0
                          by_cases hrm : r = m
                          · have hbq : (z == xh) = true := by simpa using HZ.out.2 hrm
                            have hrd := HRD.out
                            rw [if_neg (by omega : ¬ m < r), List.append_nil, show E.length = (E.map nI).length from (List.length_map ..).symm] at hrd
                            have HRD2 := hid hrd
                            have HRM := hid hrm
                            clear hrd HRD HZ hrm
                            go_wp2_with (first
                              | (at_builtin; go_loud (refine wpList_push1 (o := ⟨some 130, _, _, _, _, _⟩) rfl (.tmp 127) (.tmp 129) 57 TI Try.underlying57 infoI rfl (by decide) rfl w6.heap.size _ (E.map nI) (nI r) rfl (HRD2.out.alloc _) wd.heap.size 1 rfl (by rw [cell_of_row _ _ 0 _ _ _ (heap_alloc_new wd _)]; rfl) rfl (by rw [List.length_map]; omega) (by have := HBD.out.size; simp; omega) ?_); intro v5 w9 k1 k2 k3; have K1 := hid k1; have K2 := hid k2; clear k1 k2 k3)
                              | fail)
                            have hk1 := K1.out
                            rw [show E.map nI ++ [nI r] = (E ++ if m < r + 1 then [m] else []).map nI by rw [if_pos (by rw [HRM.out]; omega), List.map_append, HRM.out]; rfl, List.length_map] at hk1
                            have HR9 := hid hk1
                            have HB9 := hid (show Below w6.heap.size w6 w9 from (HBD.out.alloc HBD.out.size _).grown K2.out (by have := HBD.out.size; simp; omega) (fun k hk => (HRD2.out.lt k hk).1))
                            clear hk1 K1 K2 HRD2 HBD HRM
                            go_roundw
                            case rel => exact ⟨r + 1, by omega, by go_num, HR9, HB9⟩
                            case measure => simp [intOf]; omega
                          · have hbq : (z == xh) = false := by
                              have h := fun h => hrm (HZ.out.1 h)
                              simpa using h
                            have hrd := HRD.out
                            rw [show (if m < r then [m] else []) = (if m < r + 1 then [m] else []) by
                              by_cases h : m < r
                              · rw [if_pos h, if_pos (by omega)]
                              · rw [if_neg h, if_neg (by omega)]] at hrd
                            have HR9 := hid hrd
                            clear hrd HRD HZ hrm
                            go_wp2_with fail
                            go_roundw
                            case rel => exact ⟨r + 1, by omega, by go_num, HR9, HBD⟩
                            case measure => simp [intOf]; omega
                        · have hre : nw = r := by omega
                          have hr5 := HR5.out
                          rw [if_pos (by omega), ← HST2.out] at hr5
                          have HE2 := hid hr5
                          clear hr5 HR5 hre
                          go_wp2_with fail
                          go_roundw
                          case rel => exact ⟨t + 1, by omega, by go_num, HE2, HBQ⟩
                          case measure => simp [intOf]; omega
                  · have hq1 : (lk != 1) = true := by simpa using hk1
                    have hst := HST.out
                    rw [show edg1 s.L W l = [] by unfold edg1; rw [if_neg (by rw [← HLK.out]; exact hk1)], List.append_nil] at hst
                    have HE2 := hid (show wz.ownsRow w6.heap.size TI 1 _ (edgs s.L W (P.take (t + 1))).length ((edgs s.L W (P.take (t + 1))).map nI) by rw [hst]; exact HE.out)
                    clear hst HE hk1
                    go_wp2_with fail
                    go_roundw
                    case rel => exact ⟨t + 1, by omega, by go_num, HE2, HBZ⟩
                    case measure => simp [intOf]; omega
                · obtain ⟨w8, hw8⟩ : ∃ x, x = wz := ⟨_, rfl⟩
                  subst hw8
                  have hte : np = t := by omega
                  have he8 := HE.out
                  rw [← hte, HNP.out, List.take_length, HPE.out] at he8
                  obtain ⟨ea, ec, hea⟩ := own_form2 he8
                  subst hea
                  obtain ⟨E, hE⟩ : ∃ E, E = edgs s.L W (lksW s.L ob) := ⟨_, rfl⟩
                  rw [← hE] at he8
                  have hEl : (edgs s.L W (lksW s.L ob)).length ≤ np := by
                    have h : (edgs s.L W (P.take P.length)).length ≤ np := edgs_len s.L W (Nat.le_of_eq HNP.out.symm) P.length
                    rw [List.take_length, HPE.out] at h
                    exact h
                  rw [← hE] at hEl ⊢
                  obtain ⟨ne, hne⟩ : ∃ ne, ne = E.length := ⟨_, rfl⟩
                  rw [← hne] at he8 hEl ⊢
                  have hx8 : Below wx.heap.size wx w8 := (HBY6.out.trans (HBZ.out.mono HBY6.out.size))
                  have hLst : lstH s.L W x = E := by unfold lstH; rw [HOB.out, hE]
                  have hCnt : cntH s.L x = ob.count := by unfold cntH; rw [HOB.out]
                  obtain ⟨wd, hwd⟩ : ∃ wd, wd = w8.drew := ⟨_, rfl⟩
                  have hxd : Below wx.heap.size wx wd := by rw [hwd]; exact hx8.drew
                  have hed : wd.ownsRow w6.heap.size TI 1 (.slice ea ne ec) ne (E.map nI) := by rw [hwd]; exact (Fr.refl (fun _ => False) w8).drew.owns he8 (fun _ _ e => e)
                  have hGd : GI wA.heap.size wd y (nlb G wx.heap.size 6) cv ev ((W.take k).map (cntH s.L)) vs ((W.take k).map (lstH s.L W)) :=
                    HR.out.call (Fr.of_below hxd) (fun k hk => nlb_lt hk)
                  have hEd : Ed wd (nlb G wx.heap.size 6) (.slice ea ne ec) E := by
                    obtain ⟨a3, c3, e3, h1, h2, h3⟩ := (tl_own (f := nI) (xs := E) hed).ex
                    simp only [Value.slice.injEq] at e3
                    obtain ⟨rfl, e4, rfl⟩ := e3
                    rw [← e4] at h1 h3
                    refine ⟨ea, ec, by rw [← hne], by rw [← hne]; exact h1, h2, fun hp => ?_⟩
                    rw [← hne] at hp
                    obtain ⟨b3, o3, k1, k2, k3⟩ := h3 hp
                    refine ⟨b3, o3, k1, k2, ?_, k3⟩
                    subst k1
                    have hlt3 : w6.heap.size ≤ b3 := (hed.lt b3 (by
                      rcases hed.2 with ⟨q1, q2⟩ | ⟨g, cap, cur, q1, _⟩
                      · simp at q1
                      · simp only [Value.slice.injEq, Option.some.injEq, Addr.mk.injEq] at q1; rw [q1.1.1]; rfl)).1
                    exact nlb_ge (by have := HBY6.out.size; omega)
                  obtain ⟨ca, cc, hcv⟩ := own_form2 hGd.c
                  obtain ⟨eva, evc, hev⟩ := own_form2 hGd.e
                  have y0 := hGd.y0
                  have c2 : wd.cell? ⟨bx, 2, none⟩ = some (.int .u32 ob.count) := (World.cell?_of_block (w := wx) (w' := wd) (a := ⟨bx, 2, none⟩) (hxd.block bx hbxl)).trans HRC.out.c2
                  have y08 : w8.cell? ⟨y, 0, none⟩ = some cv := by
                    have h := (HR.out.call (F' := G) (Fr.of_below hx8) (fun _ _ => rfl)).y0
                    exact h
                  have c28 : w8.cell? ⟨bx, 2, none⟩ = some (.int .u32 ob.count) := (World.cell?_of_block (w := wx) (w' := w8) (a := ⟨bx, 2, none⟩) (hx8.block bx hbxl)).trans HRC.out.c2
                  have hk2 : k < (List.map (cntH s.L) (List.take k W)).length + 1 := by rw [List.length_map, List.length_take]; have := HNW.out; omega
                  have hcl : ((W.take k).map (cntH s.L)).length = k := by rw [List.length_map, List.length_take]; have := HNW.out; omega
                  have hvl : vs.length = k := by rw [hGd.l, List.length_map, List.length_take]; have := HNW.out; omega
                  obtain ⟨w9, hw9⟩ : ∃ w9, w9 = wd.alloc (.cells #[.int .u32 ob.count] TU32) := ⟨_, rfl⟩
                  have hoc : w9.ownsRow wA.heap.size TU32 1 cv (((W.take k).map (cntH s.L)).map cU).length (((W.take k).map (cntH s.L)).map cU) := by rw [hw9, List.length_map]; exact hGd.c.alloc _
                  obtain ⟨v10, w10, r1, r2, r3, r4⟩ := run_push1 (w := w9) 39 39 TU32 Try.underlying39 infoU32 rfl (by decide) wA.heap.size cv _ (.int .u32 ob.count) hoc wd.heap.size 1 (by rw [hw9, cell_of_row _ _ 0 _ _ _ (heap_alloc_new wd _)]; rfl) rfl (by rw [List.length_map, hcl]; omega) (by rw [hw9]; have := hGd.lt; have := hGd.b0; simp; omega)
                  have hr2 : w10.ownsRow wA.heap.size TU32 1 v10 ((W.take k).map (cntH s.L) ++ [ob.count]).length (((W.take k).map (cntH s.L) ++ [ob.count]).map cU) := by
                    rw [List.map_append, List.length_append]
                    rw [List.length_append, List.length_map] at r2
                    exact r2
                  obtain ⟨va10, vc10, hv10⟩ := own_form2 hr2
                  rw [List.length_append, hcl, List.length_singleton] at hv10
                  subst hv10
                  have hgc := hGd.growC (x := ob.count) hr2 (by rw [← hw9]; exact r3) (by rw [← hw9]; exact r4)
                  have hbxw : bx < w.heap.size := by
                    obtain ⟨_, _, h⟩ := HH.out.ob ob HOM.out
                    rw [HBE.out]; exact h.lt
                  have hS9 : w9.cell? ⟨y, 0, none⟩ = some cv ∧ w9.cell? ⟨bx, 2, none⟩ = some (.int .u32 ob.count) := by
                    have hf9 : Below wd.heap.size wd w9 := by rw [hw9]; exact (Below.refl _ _).alloc (Nat.le_refl _) _
                    exact ⟨(World.cell?_of_block (w := wd) (w' := w9) (a := ⟨y, 0, none⟩) (hf9.block y hGd.lt)).trans y0, (World.cell?_of_block (w := wd) (w' := w9) (a := ⟨bx, 2, none⟩) (hf9.block bx (Nat.lt_of_lt_of_le hbxl hxd.size))).trans c2⟩
                  have hS10 : w10.cell? ⟨bx, 2, none⟩ = some (.int .u32 ob.count) := by
                    have h1 : bx < w9.heap.size := by have := hxd.size; rw [hw9]; simp; omega
                    refine (World.cell?_of_block (w := w9) (w' := w10) (a := ⟨bx, 2, none⟩) (r3.block bx h1 (fun e => ?_))).trans hS9.2
                    have h2 := (hGd.c.lt bx e.symm).1
                    have := HB03.out.size
                    omega
                  have z10 := frozen_of_row w10 y 0 _ _ hgc.1
                  have hd10 : w10.cell? ⟨y, 0, none⟩ = some cv := by rw [cell_of_row w10 y 0 _ _ _ hgc.1]; rfl
                  obtain ⟨wf, hwf⟩ : ∃ wf, wf = w10.setCell ⟨y, 0, none⟩ (.slice va10 (k + 1) vc10) := ⟨_, rfl⟩
                  have hgf := hgc.2
                  rw [← hwf] at hgf
                  obtain ⟨F5, hF5⟩ : ∃ F5, F5 = nlb (nlb G wx.heap.size 6) wd.heap.size 2 := ⟨_, rfl⟩
                  rw [← hF5] at hgf
                  have hEf := hgf.2.2 _ _ hEd
                  have HGF := hid hgf.1
                  have HEF := hid hEf
                  have HBF := hid ((HB.out.trans (hxd.mono HB.out.size)).trans hgf.2.1)
                  have y1f := hgf.1.y1
                  have R1 := hid r1
                  have HW9 := hid hw9
                  have HWF := hid hwf
                  have HWD := hid hwd
                  have HLST := hid hLst
                  have HCNT := hid hCnt
                  obtain ⟨cn, hcn⟩ : ∃ cn, cn = ob.count := ⟨_, rfl⟩
                  rw [← hcn] at c2 c28 HW9 HGF HCNT hS9 hS10
                  have HS9 := hid hS9
                  have HS10 := hid hS10
                  clear hE he8 hne hx8 hLst hCnt hwd hxd hed hGd hEd hoc r1 r2 r3 r4 hr2 hgc hwf hgf hF5 hEf hw9 hcn HE HBZ HR hcv hev hk2 hS9 hS10 hbxw
                  go_wp2_with fail
                  refine D.wp_region_mix [0, 1, 0, 0, 0, 1, 2, 2, 0, 3] (fun W => W.cell? ⟨y, 0, none⟩ = some cv ∧ W.cell? ⟨bx, 2, none⟩ = some (.int .u32 cn)) (by kernel_rfl) (by kernel_rfl) ⟨y08, c28⟩ ?_
                  repeat (first
                    | (refine' C.wpMix_value _ rfl rfl _ _; rotate_left; (solve | (intro W; go_simp) | (intro W; go_simp; with_reducible rfl)); simp only [Act.put, List.setIfInBounds_toArray, List.set_cons_zero, List.set_cons_succ])
                    | (refine' C.wpMix_read _ rfl rfl _ _; rotate_left; (solve | (rintro W ⟨h1, h2⟩; go_simp) | (rintro W ⟨h1, h2⟩; go_simp; with_reducible rfl)); simp only [Act.put, List.setIfInBounds_toArray, List.set_cons_zero, List.set_cons_succ]))
                  rw [← HWD.out]
                  refine C.wpMix_write (.slice (some ⟨wd.heap.size, 0, none⟩) 1 1) w9 (by decide) rfl (by rw [HW9.out]; exact exec_mkU rfl rfl ⟨_, rfl⟩) (fun _ => HS9.out) ?_
                  simp only [Act.put, List.setIfInBounds_toArray, List.set_cons_zero, List.set_cons_succ]
                  refine C.wpMix_write (.slice va10 (k + 1) vc10) w10 (by decide) rfl (exec_app rfl rfl rfl R1.out) (fun _ => ⟨hd10, HS10.out⟩) ?_
                  simp only [Act.put, List.setIfInBounds_toArray, List.set_cons_zero, List.set_cons_succ]
                  refine C.wpMix_value (.pointer (some ⟨y, 0, none⟩)) rfl rfl (fun W => by go_simp) ?_
                  simp only [Act.put, List.setIfInBounds_toArray, List.set_cons_zero, List.set_cons_succ]
                  refine C.wpMix_skip (w10.setCell ⟨y, 0, none⟩ (.slice va10 (k + 1) vc10)) (by decide) rfl (by go_simp) (fun h => by cases h) ?_
                  simp only [Act.put]
                  refine C.wpMix_end ?_
                  rw [← HWF.out]
                  have HVL := hid hvl
                  clear z10 hd10 y0 c2 y08 c28 HWF HW9 HWD HS9 HS10 R1 hvl hcl
                  have HEV := hid (show wf.ownsRow wA.heap.size TSI 1 ev vs.length vs from HGF.out.e)
                  go_upto_region 11 with (first
                    | (at_builtin; go_loud (refine wpList_push1 (o := ⟨some 144, _, _, _, _, _⟩) rfl (.tmp 141) (.tmp 143) 40 TSI Try.underlying40 infoSI rfl (by decide) rfl wA.heap.size ev vs (.slice ea ne ec) rfl (HEV.out.alloc _) wf.heap.size 1 rfl (by rw [cell_of_row _ _ 0 _ _ _ (heap_alloc_new wf _)]; rfl) rfl (by rw [HVL.out]; omega) (by have := HBF.out.size; have := HB03.out.size; simp; omega) ?_); intro v12 w12 k1 k2 k3; have hge := HGF.out.growE HEF.out k1 k2 k3; have HGE := hid hge.2; have c1' := cell_of_row w12 y 1 _ _ _ hge.1; have z1' := frozen_of_row w12 y 1 _ _ hge.1; obtain ⟨v12a, v12c, hv12⟩ := own_form2 k1; rw [List.length_append, HVL.out, List.length_singleton] at hv12; subst hv12; simp only [List.getElem?_toArray, List.getElem?_cons_succ, List.getElem?_cons_zero] at c1'; clear k1 k2 k3 hge)
                    | fail)
                  have hgo := HGE.out.1
                  rw [show (W.take k).map (cntH s.L) ++ [cn] = (W.take (k + 1)).map (cntH s.L) by rw [List.take_add_one, HX.out, List.map_append, ← HCNT.out]; rfl, show (W.take k).map (lstH s.L W) ++ [E] = (W.take (k + 1)).map (lstH s.L W) by rw [List.take_add_one, HX.out, List.map_append, ← HLST.out]; rfl] at hgo
                  have HGO := hid hgo
                  have HBO := hid (HBF.out.trans HGE.out.2)
                  clear hgo HGE HGF HEF HBF HEV y1f
                  go_wp2_with fail
                  go_roundw
                  case rel => exact ⟨k + 1, _, _, _, _, by omega, by go_num, HGO, HBO⟩
                  case measure => simp [intOf]; omega
        · have hke : k = nw := by omega
          have hg := HR.out
          rw [hke, HNW.out, List.take_length] at hg
          obtain ⟨g1, hg1⟩ : ∃ g1, g1 = w.heap.size := ⟨_, rfl⟩
          have HONE := hid (show (#[cv, ev] : Array Value).all (·.oneCell') = true by
            obtain ⟨ca, cc, e1⟩ := own_form2 hg.c
            obtain ⟨ea, ec, e2⟩ := own_form2 hg.e
            rw [e1, e2]; simp [Value.oneCell'])
          have hr1 := (HB.out.block _ (Array.getElem?_eq_some_iff.1 HG1A.out).1).trans HG1A.out
          have HG9 := hid hg
          have HWO9 := hid ((Fr.of_below (fp := fun _ => False) HB.out).owns HWO1.out (fun _ _ e => e))
          have HB9 := hid (HB03.out.trans (HB.out.mono HB03.out.size))
          have HR1 := hid hr1
          clear hg hr1 HR HB hke
          go_wp2_with (first
            | ((with_reducible refine at_op ⟨some 146, _, _, _, _, _⟩ ?_); go_loud (refine wpList_load_row rfl 42 _ rfl y rfl 42 #[cv, ev] (0, 0) _ HG9.out.hy Try.underlying42 rfl (by kernel_rfl) ?_))
            | ((with_reducible refine at_op ⟨none, .store 42 (.tmp 2) (.tmp 146), _, _, _, _⟩ ?_); go_loud (refine wpList_store_row rfl 42 (.tmp 2) (.tmp 146) rfl w.heap.size #[cv, ev] rfl rfl TGr #[.slice none 0 0, .slice none 0 0] HR1.out (by kernel_rfl) rfl HONE.out ?_))
            | fail)
          have hz9 : (wx.setRow w.heap.size #[cv, ev]).heap[w.heap.size]? = some (.cells #[cv, ev] TGr (0, 0)) := setRow_heap _ _ _ _ _ (0, 0) HR1.out
          have hf9 : Fr (fun b => b = w.heap.size) wx (wx.setRow w.heap.size #[cv, ev]) := ⟨rfl, rfl, rfl, by simp [World.setRow], fun k _ hk => setRow_other wx _ k _ hk⟩
          have hga : w.heap.size < wA.heap.size := (Array.getElem?_eq_some_iff.1 HG1A.out).1
          refine graph_ret rfl rfl hz9 ⟨cv, ev, _, rfl, ?_, ?_, HB9.out.trans (hf9.below HB9.out.size (fun k hk => by rw [hk]; exact Nat.le_refl _))⟩
          · rw [← HWE.out]
            exact tl_own (hf9.owns HWO9.out (fun k hk e => by have := (HWO9.out.lt k hk).1; have := HG1L.out; omega))
          · rw [← HWE.out]
            exact (HG9.out.low hf9 hga).told
end Go.Proofs.Ytmkajdfajcodjaa
