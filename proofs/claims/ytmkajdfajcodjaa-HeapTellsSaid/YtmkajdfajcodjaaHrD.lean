/-
  The plain twin of a heap: who goes.
-/
import Derived.Test.YtmkajdfajcodjaaHrE
import Derived.Deep.LoopGhost
import Derived.Deep.Cut
import Derived.Deep.CutRange
namespace Go.Proofs.Ytmkajdfajcodjaa
open Go Go.ChangeShapes Go.WideShapes Go.ChangeAt Go.RowKit

theorem wpList_append_v {w : World} {ops : Array Oper} {rest : List Oper} {o : Oper} {a : Act} {Q : Exit → Act → World → Prop} (hgd : o.guard = none) (s x : Operand) (t : TypeId)
    (ho : o.op = .call { callee := .builtin .append, args := #[s, x], argTypes := #[t, t] }) (v u r : Value) (w' : World) (hs : a.eval s = v) (hx : a.eval x = u) (hr : (Builtin.append_ #[t, t] o.type #[v, u]).run Try.prog w = .ok r w')
    (hK : wpList Try.prog ops Q rest (a.put o.dst r) w') : wpList Try.prog ops Q (o :: rest) a w := by
  refine wpList_plain hgd fun K hK2 => ?_
  unfold Oper.wp execOp
  simp only [ho, resolve, invoke, builtin, Sem.run_bind, Sem.run_pure, Result.andThen_ok, List.map_toArray, List.map_cons, List.map_nil, hs, hx, hr]
  exact hK2 _ _ hK
theorem wrap_dec {c t : Int} (h0 : 0 ≤ c) (h1 : c ≤ t) (h2 : t ≤ 4294967295) (h3 : ¬ c = 0) : IntKind.u32.wrap (c - 1) = c - 1 := IntWalk.u32_in _ (by omega)
/-- All that a call lets go, and who goes then. -/
def Fin (L0 : HL) (ws0 : List Int) (P0 : List Lk) (L' : HL) (G F : List Int) : Prop := ∃ f2, Goes (letg L0 P0).1 (ws0 ++ (letg L0 P0).2.1) L' G f2 ∧ F = (letg L0 P0).2.2 ++ f2
/-- Ahead of a round. -/
structure GoI (w : World) (p pa : Nat) (A0 : Ar) (F : Nat → Lab) (B : Int → Nat) (top : Int) (L0 : HL) (ws0 : List Int) (P0 : List Lk) (k : Nat) (v1 v2 v8 v9 i : Value) (W : World) : Prop where
  ex : ∃ L wa dn ws P g f, GoS w p pa A0 F B top L v1 v2 v8 v9 wa P g f g W ∧ HIn top L ∧ WQ L ws ∧ wa = dn ++ ws ∧ dn.length + L.length ≤ 70000 ∧ g.length + L.length ≤ 70000 ∧
    ((i = .int .i64 (-1) ∧ dn = [] ∧ L = L0 ∧ P = P0 ∧ ws = ws0 ∧ g = [] ∧ f = [] ∧ k = L.length + 1 ∧ f.length + totl L + P.length ≤ 1000000) ∨
      (i = .int .i64 dn.length ∧ k = L.length ∧ f.length + totl L ≤ 1000000 ∧ ∀ L' g' f', Goes L ws L' g' f' → Fin L0 ws0 P0 L' (g ++ g') (f ++ f')))
/-- The links of this round are there. -/
structure GoM (w : World) (p pa : Nat) (A0 : Ar) (F : Nat → Lab) (B : Int → Nat) (top : Int) (L0 : HL) (ws0 : List Int) (P0 : List Lk) (k : Nat) (i : Int) (wa f : List Int) (v1 v2 v8 v9 : Value) (W : World) : Prop where
  ex : ∃ L dn ws P g, GoS w p pa A0 F B top L v1 v2 v8 v9 wa P g f g W ∧ HIn top L ∧ WQ L ws ∧ wa = dn ++ ws ∧ i + 1 = dn.length ∧ dn.length + L.length ≤ 70000 ∧ g.length + L.length ≤ 70000 ∧ L.length < k ∧ f.length + totl L + P.length ≤ 1000000 ∧ (∀ l ∈ P, Nm l.kind ∧ Hn l.h) ∧
    ∀ L' g' f', Goes (letg L P).1 (ws ++ (letg L P).2.1) L' g' f' → Fin L0 ws0 P0 L' (g ++ g') (f ++ ((letg L P).2.2 ++ f'))
/-- Some inners went. -/
def In2 (w : World) (p pa : Nat) (A0 : Ar) (F : Nat → Lab) (B : Int → Nat) (top : Int) (L1 : HL) (v1 v9 : Value) (wa f g : List Int) (o : Ob) (sv sw : Value) (j : Nat) (v2 v8 : Value) (W : World) : Prop :=
  ∃ F5, GoT w p pa A0 F F5 B top (drp L1 (o.h :: o.inners.take j)) v1 v2 v8 v9 wa ((o.h :: o.inners.take j).flatMap (linksOf L1)) (g ++ o.h :: o.inners.take j) f (g ++ o.h :: o.inners.take j) W ∧ RoC W F5 (B o.h) sv sw o
/-- Some links were let go. -/
def In3 (w : World) (p pa : Nat) (A0 : Ar) (F : Nat → Lab) (B : Int → Nat) (top : Int) (L2 : HL) (v2 v8 : Value) (wa ws f g : List Int) (P : List Lk) (j : Nat) (v1 v9 : Value) (W : World) : Prop :=
  (∃ F5, GoT w p pa A0 F F5 B top (letg L2 (P.take j)).1 v1 v2 v8 v9 (wa ++ (letg L2 (P.take j)).2.1) P g (f ++ (letg L2 (P.take j)).2.2) g W) ∧ HIn top (letg L2 (P.take j)).1 ∧ WQ (letg L2 (P.take j)).1 (ws ++ (letg L2 (P.take j)).2.1)
theorem In3.next {w W : World} {p pa : Nat} {A0 : Ar} {F F5 : Nat → Lab} {B : Int → Nat} {top : Int} {L2 La : HL} {v1 v2 v8 v9 : Value} {wa ws wsa fa f g : List Int} {P : List Lk} {j : Nat} {l : Lk} (hap : letg L2 (P.take (j + 1)) = ((let1 La l).1, wsa ++ (let1 La l).2.1, fa ++ (let1 La l).2.2)) (hi : HIn top La) (hw : WQ La (ws ++ wsa))
    (hT : GoT w p pa A0 F F5 B top (let1 La l).1 v1 v2 v8 v9 (wa ++ wsa ++ (let1 La l).2.1) P g (f ++ fa ++ (let1 La l).2.2) g W) : In3 w p pa A0 F B top L2 v2 v8 wa ws f g P (j + 1) v1 v9 W := by
  unfold In3
  rw [hap]
  refine ⟨⟨F5, ?_⟩, (hi.let1 l).1, ?_⟩
  · rw [List.append_assoc, List.append_assoc] at hT
    exact hT
  · have := hw.let1 hi l
    rw [List.append_assoc] at this
    exact this
theorem In3.same {w W : World} {p pa : Nat} {A0 : Ar} {F F5 : Nat → Lab} {B : Int → Nat} {top : Int} {L2 La : HL} {v1 v2 v8 v9 : Value} {wa ws wsa fa f g : List Int} {P : List Lk} {j : Nat} {l : Lk} (hap : letg L2 (P.take (j + 1)) = ((let1 La l).1, wsa ++ (let1 La l).2.1, fa ++ (let1 La l).2.2)) (hi : HIn top La) (hw : WQ La (ws ++ wsa)) (h1 : let1 La l = (La, [], []))
    (hT : GoT w p pa A0 F F5 B top La v1 v2 v8 v9 (wa ++ wsa) P g (f ++ fa) g W) : In3 w p pa A0 F B top L2 v2 v8 wa ws f g P (j + 1) v1 v9 W :=
  In3.next hap hi hw (by rw [h1]; simpa using hT)
def GoP (w : World) (p pa : Nat) (A0 : Ar) (F : Nat → Lab) (B : Int → Nat) (top : Int) (L0 : HL) (ws0 : List Int) (P0 : List Lk) (e : Ending) (w' : World) : Prop :=
  ∃ Lf g f Sa A F1 lv vg vf, e = .returned (.tuple #[vg, vf]) ∧ w'.ownsRow 0 TU 1 vg g.length (g.map u64v) ∧ w'.ownsRow 0 TU 1 vf f.length (f.map u64v) ∧ Fin L0 ws0 P0 Lf g f ∧ RhW w' p pa Sa A F1 B top Lf lv ∧ DrR A0 g A ∧ (∀ k, k < w.heap.size → F1 k = F k) ∧ FrF F w w'
section
variable {w : World} {p pa : Nat} {Sa : Nat → Prop} {A : Ar} {F : Nat → Lab} {B : Int → Nat} {top : Int} {L : HL} {lv v1 v2 : Value} {ws : List Int} {P : List Lk}
set_option maxRecDepth 100000 in
set_option maxHeartbeats 40000000 in
theorem RGo_any (h : GoE w p pa Sa A F B top L lv v1 v2 (.slice none 0 0) (.slice none 0 0) ws P [] []) (hf : ∀ o ∈ L, ∃ i sp, Found A o.h i sp) (hi : HIn top L) (hw : WQ L ws) (htop : top ≤ 4294967295) (hlk : ∀ l ∈ P, Nm l.kind ∧ Hn l.h) (hL : L.length ≤ 65536) (hP : P.length ≤ 1000) :
    Calls Try.prog 59 #[.pointer (some ⟨p, 0, none⟩), v1, v2] w (GoP w p pa A F B top L ws P) := by
  have htt := totl_le hi
  have hI : GoI w p pa A F B top L ws P (L.length + 1) v1 v2 (.slice none 0 0) (.slice none 0 0) (.int .i64 (-1)) w :=
    ⟨L, ws, [], ws, P, [], [], ⟨⟨Sa, A, F, lv, h, .nil _, hf, fun _ _ => rfl⟩, FrF.refl _ _⟩, hi, hw, rfl, by simp; omega, by simp; omega, .inl ⟨rfl, rfl, rfl, rfl, rfl, rfl, rfl, rfl, by simp; omega⟩⟩
  obtain ⟨a1, c1, rfl⟩ := own_form h.r1
  obtain ⟨a2, c2, rfl⟩ := own_form h.r2
  have HI := hid hI
  have HTOP := hid htop
  have HLK := hid hlk
  clear hI h hf hi hw htop hlk htt
  obtain ⟨i0, hi, hz0, hz1, hz2⟩ := info_parts infoRU
  have hi' := hid hi
  have hz0' := hid hz0
  have hz1' := hid hz1
  have hz2' := hid hz2
  obtain ⟨j0, hj, hy0, hy1, hy2⟩ := info_parts infoLkB
  have hj' := hid hj
  have hy0' := hid hy0
  have hy1' := hid hy1
  have hy2' := hid hy2
  clear hi hz0 hz1 hz2 hj hy0 hy1 hy2
  go_enter Try.func59, Try.ntmps59
  go_wp2_with fail
  go_loopg [1, 2, 8, 9, 10] (L.length + 1) (fun k v1 v2 v8 v9 i wr => RowKit.Hid (GoI w p pa A F B top L ws P k v1 v2 v8 v9 i wr))
  case atStart => exact HI
  case round =>
    obtain ⟨L1, wa, dn, ws1, P1, g, f, hS, k6, k7, k8, k9, k10, k11⟩ := hrel.out.ex
    obtain ⟨iv, rfl, hiv⟩ : ∃ iv : Int, u10 = .int .i64 iv ∧ (iv = -1 ∧ dn = [] ∨ iv = dn.length) := by
      rcases k11 with ⟨e, e2, _⟩ | ⟨e, _⟩
      · exact ⟨-1, e, .inl ⟨rfl, e2⟩⟩
      · exact ⟨_, e, .inr rfl⟩
    obtain ⟨a3, c3, rfl⟩ : ∃ a c, u1 = .slice a wa.length c := by
      obtain ⟨⟨Sa1, A1, F1, lv1, k1, _⟩, _⟩ := hS
      exact own_form k1.r1
    obtain ⟨a4, c4, rfl⟩ : ∃ a c, u2 = .slice a P1.length c := by
      obtain ⟨⟨Sa1, A1, F1, lv1, k1, _⟩, _⟩ := hS
      exact own_form k1.r2
    obtain ⟨a8, c8, rfl⟩ : ∃ a c, u8 = .slice a g.length c := by
      obtain ⟨⟨Sa1, A1, F1, lv1, k1, _⟩, _⟩ := hS
      exact own_form k1.r8
    obtain ⟨a9, c9, rfl⟩ : ∃ a c, u9 = .slice a f.length c := by
      obtain ⟨⟨Sa1, A1, F1, lv1, k1, _⟩, _⟩ := hS
      exact own_form k1.r9
    have hwl := k7.len
    have hwal : wa.length = dn.length + ws1.length := by rw [k8, List.length_append]
    by_cases hlt : iv < wa.length
    · have HS := hid hS
      have K6 := hid k6
      have K7 := hid k7
      have K8 := hid k8
      have K9 := hid k9
      have K10 := hid k10
      have K11 := hid k11
      have HIV := hid hiv
      have hivb : -1 ≤ iv ∧ iv ≤ 100000 := by omega
      have HWL := hid hwal
      clear hS k6 k7 k8 k9 k10 k11 hiv hwl hrel hwal
      generalize hnw : wa.length = nw1 at *
      generalize hnp : P1.length = np at *
      generalize hng : g.length = ng at *
      generalize hnf : f.length = nf at *
      have HNW := hid hnw
      have HNP := hid hnp
      have HNG := hid hng
      have HNF := hid hnf
      clear hnw hnp hng hnf
      go_upto_if 23 with fail
      go_cut [2, 8] from 16 to 134 (fun v2 v8 wx => RowKit.Hid (GoM w p pa A F B top L ws P gk iv wa f (.slice a3 nw1 c3) v2 v8 (.slice a9 nf c9) wx))
      case first =>
        rcases HIV.out with ⟨h1, h2⟩ | h1
        · subst h1
          go_wp2
          go_meet
          case rel =>
            rcases K11.out with ⟨_, e2, e3, e4, e5, e6, e7, e8, e9⟩ | ⟨e, _⟩
            · subst e2 e3 e4 e5
              refine ⟨L1, [], ws1, P1, g, HS.out, K6.out, K7.out, K8.out, by simp, K9.out, by rw [HNG.out]; exact K10.out, by omega, by rw [HNF.out, HNP.out]; exact e9, HLK.out, fun L' g' f' hg => ?_⟩
              subst e6 e7
              exact ⟨f', hg, by simp⟩
            · simp only [Value.int.injEq, true_and] at e
              omega
        · obtain ⟨dl, hdl⟩ : ∃ dl, dl = dn.length := ⟨_, rfl⟩
          rw [← hdl] at h1
          have HDL := hid hdl
          have hw1 : 1 ≤ ws1.length := by have := HWL.out; omega
          obtain ⟨x, ws2, rfl⟩ : ∃ x ws2, ws1 = x :: ws2 := by
            cases ws1 with
            | nil => simp at hw1
            | cons x l => exact ⟨x, l, rfl⟩
          obtain ⟨o, ho, he, ho0, hoc⟩ := K7.out.is x (by simp)
          have hfx : fnd L1 x = some o := by rw [← he]; exact fnd_mem K6.out.nd ho
          obtain ⟨F1, hT⟩ := HS.out.goT
          have hz1 : ∀ o ∈ L1, 1 ≤ o.h := fun o ho => (K6.out.nz o ho).1
          have hll : L1.length ≤ 100000 := by
            have := K9.out
            omega
          have haw := hT.away hll hz1 hfx
          have hr1 := hT.rows.1
          rw [HNW.out] at hr1
          obtain ⟨gq, kq, hq1, _⟩ := hr1.form (by omega)
          simp only [Value.slice.injEq] at hq1
          obtain ⟨rfl, -, rfl⟩ := hq1
          have cx : wr.cell? ⟨gq, dl, none⟩ = some (.int .u64 x) := by
            rw [hr1.cellAt dl (by have := HWL.out; simp only [List.length_cons] at this; omega), List.getElem?_map, K8.out, List.getElem?_append_right (by omega), hdl, Nat.sub_self]
            rfl
          have HAW := hid haw
          have HX := hid hfx
          have HO := hid ho
          have HE := hid he
          have HO0 := hid ho0
          subst h1
          clear hT haw hr1 hfx ho he ho0 hoc hdl hz1 hll hw1
          go_wp2_with fail
          refine HAW.out.mono ?_
          rintro e W2 ⟨rfl, F2, sv, sw, hT2, _, hob⟩
          have hz2 : ∀ z ∈ rst L1 x, 1 ≤ z.h := fun z hz => (K6.out.nz z (List.mem_filter.1 hz).1).1
          have cob := hob.c0
          rw [HE.out] at cob
          have hr8 := hT2.rows.2.2.1
          rw [HNG.out] at hr8
          have hngb : ng ≤ 100000 := by have := K10.out; omega
          have HT2 := hid hT2
          have HOB := hid hob
          have HR8 := hid hr8
          have HZ2 := hid hz2
          clear hT2 hob hr8 hz2 cx HAW
          go_upto_region 9 with (at_builtin; refine wpList_append_lies _ (o := ⟨some 36, _, _, _, _, _⟩) rfl (.tmp 30) (.tmp 35) 43 rfl 0 TU i0 (.int .u64 0) 1 8 Try.underlying43 hi'.out hz0'.out hz1'.out hz2'.out rfl (by decide) (.slice a8 ng c8) ng _ rfl (HR8.out.alloc _) ⟨W2.heap.size, 0, none⟩ 1 1 [.int .u64 x] rfl rfl (one_news _ _ _ _ rfl) (by simp [Value.oneCell']) (by decide) (by unfold maxLen; omega) (by omega) (Nat.zero_le _) (W2.heap.size + 1) (by simp) ?_; intro g5 k5 W3 hown5 hgrow5 hat5 hlt5)
          have hfr3 : Fr (fun k => (Value.slice a8 ng c8).ownBlock = some k) W2 W3 := ((Fr.refl _ _).alloc _).grown hgrow5 (fun j hj _ => hj)
          obtain ⟨F3, hT3, hke3⟩ := HT2.out.push8 HZ2.out (xs := g ++ [x]) (v' := .slice (some ⟨g5, 0, none⟩) (ng + 1) k5) hfr3 (by rw [List.length_append, List.length_singleton, HNG.out, List.map_append]; exact hown5) (fun k hk => by
            simp only [Value.ownBlock, Option.some.injEq] at hk
            subst hk
            rcases hat5 with e | e
            · exact .inl e
            · right; omega)
          have hob3 := hke3 _ _ _ _ (K6.out.nz o HO.out).1 HOB.out
          have cob3 := hob3.c4
          have hsv := hob3.hs
          have ho8 : o.links.length ≤ 8 := (K6.out.lnk o HO.out).1
          obtain ⟨al, cl, rfl⟩ := own_form hsv
          obtain ⟨a6, c6, W4, r1, r2, r3, r4⟩ := append_links (t := 77) (ty := 77) Try.underlying77 hj'.out hy0'.out hy1'.out hy2'.out (World.ownsRow_nil W3 0 TLk 2) hsv (by omega) (Nat.zero_le _)
          simp only [Nat.zero_add, List.nil_append] at r1 r2 r4
          have hfr4 : Fr (fun k => (Value.slice none 0 0).ownBlock = some k) W3 W4 := (Fr.refl _ _).grown r3 (fun j hj _ => hj)
          obtain ⟨F4, hT4, hke4⟩ := hT3.nil2.push2 HZ2.out (P' := o.links) (v' := .slice a6 o.links.length c6) hfr4 r2 (fun k hk => by
            rw [hk] at r4
            rcases r4 with e | e
            · exact .inl e.symm
            · right; simp only [Option.some.injEq] at e; omega)
          have hob4 := hke4 _ _ _ _ (K6.out.nz o HO.out).1 hob3
          obtain ⟨m0, hm0⟩ : ∃ m, m = o.links.length := ⟨_, rfl⟩
          rw [← hm0] at r1 cob3 hT4
          have R1 := hid r1
          have HT4 := hid hT4
          have HOB4 := hid hob4
          have HM0 := hid hm0
          clear hfr3 hT3 hke3 hob3 hsv r1 r2 r3 r4 hfr4 hT4 hke4 hob4 hown5 hgrow5 hat5 hlt5 HT2 HOB HR8 cob hm0 ho8
          go_upto_region 10 with ((with_reducible refine at_op ⟨some 42, _, _, _, _, _⟩ ?_); refine wpList_append_v rfl (.tmp 37) (.tmp 41) 77 rfl _ _ _ W4 rfl rfl R1.out ?_)
          have hsw := HOB4.out.hi
          have cob4 := HOB4.out.c5
          obtain ⟨ai, ci, rfl⟩ := own_form hsw
          have hlinks : linksOf L1 o.h = o.links := by unfold linksOf; rw [HE.out, HX.out]
          have hI2 : In2 w p pa A F B top L1 (.slice (some ⟨gq, 0, none⟩) nw1 c3) (.slice a9 nf c9) wa f g o (.slice al o.links.length cl) (.slice ai o.inners.length ci) 0 (.slice a6 m0 c6) (.slice (some ⟨g5, 0, none⟩) (ng + 1) k5) W4 := by
            refine ⟨F4, ?_, by rw [HE.out]; exact HOB4.out⟩
            have e1 : drp L1 (o.h :: o.inners.take 0) = rst L1 x := by rw [List.take_zero, ← List.nil_append [o.h], ← rst_drp, drp_nil, HE.out]
            rw [e1, List.take_zero, List.flatMap_singleton, hlinks, HE.out]
            exact HT4.out
          have hMb : o.inners.length ≤ 70000 := by
            have h1 := (awa_tot K6.out HO.out).2
            have := K9.out
            omega
          have HI2 := hid hI2
          obtain ⟨M, hM⟩ : ∃ M, M = o.inners.length := ⟨_, rfl⟩
          rw [← hM] at HI2 cob4 hMb
          have HM := hid hM
          have HLX := hid hlinks
          clear hsw hlinks hI2 hM HT4 HOB4 R1 cob3 HZ2
          go_wp2_with fail
          go_loopw [2, 8, 12] (fun v2 v8 i wx => ∃ j : Nat, j ≤ M ∧ i = .int .i64 j ∧ RowKit.Hid (In2 w p pa A F B top L1 (.slice (some ⟨gq, 0, none⟩) nw1 c3) (.slice a9 nf c9) wa f g o (.slice al o.links.length cl) (.slice ai M ci) j v2 v8 wx)) (fun _ _ i _ => M - (intOf i).toNat)
          case atStart => exact ⟨0, Nat.zero_le _, rfl, HI2⟩
          case round =>
            obtain ⟨j, hj, rfl, HJ⟩ := hrel
            obtain ⟨F5, hT5, hob5⟩ := HJ.out
            have d5 := hob5.c5
            rw [HE.out] at d5
            obtain ⟨a2', c2', rfl⟩ := own_form hT5.rows.2.1
            obtain ⟨a8', c8', rfl⟩ := own_form hT5.rows.2.2.1
            have hgl : (g ++ o.h :: o.inners.take j).length = ng + 1 + j := by
              rw [List.length_append, List.length_cons, List.length_take, HNG.out]
              have := HM.out
              omega
            obtain ⟨np2, hnp2⟩ : ∃ n, n = ((o.h :: o.inners.take j).flatMap (linksOf L1)).length := ⟨_, rfl⟩
            have hzd : ∀ z ∈ drp L1 (o.h :: o.inners.take j), 1 ≤ z.h := fun z hz => (K6.out.nz z (mem_drp.1 hz).1).1
            have hld : (drp L1 (o.h :: o.inners.take j)).length ≤ 100000 := by
              have h1 := List.length_filter_le (fun y : Ob => !((o.h :: o.inners.take j).contains y.h)) L1
              have := K9.out
              unfold drp
              omega
            rw [hgl, ← hnp2] at hT5 HJ ⊢
            by_cases hjl : j < M
            · have hjo : j < o.inners.length := by rw [← HM.out]; exact hjl
              have hs : o.inners[j]? = some o.inners[j] := List.getElem?_eq_getElem hjo
              have htk : o.inners.take (j + 1) = o.inners.take j ++ [o.inners[j]] := by rw [List.take_succ_eq_append_getElem hjo]
              generalize o.inners[j] = y at hs htk
              have hym := List.mem_of_getElem? hs
              obtain ⟨oy, hoy, hyh, _⟩ := K6.out.inn o HO.out y hym
              have hyn : y ∉ o.h :: o.inners.take j := fun hm => by
                rcases List.mem_cons.1 hm with e | e
                · exact K6.out.self HO.out (by rw [← e]; exact hym)
                · have h1 := (K6.out.idp o HO.out).sublist (List.take_sublist (j + 1) o.inners)
                  rw [htk, List.nodup_append] at h1
                  exact h1.2.2 _ e _ (by simp) rfl
              have hfy : fnd L1 y = some oy := by rw [← hyh]; exact fnd_mem K6.out.nd hoy
              have haw := hT5.away hld hzd (fnd_drp K6.out.nd hfy hyn)
              have hri := hob5.hi
              rw [← HM.out] at hri
              obtain ⟨gi, ki, hqi, _⟩ := hri.form (by omega)
              simp only [Value.slice.injEq] at hqi
              obtain ⟨rfl, -, rfl⟩ := hqi
              have ci0 : wr.cell? ⟨gi, j, none⟩ = some (.int .u64 y) := by
                rw [hri.cellAt j (by omega), List.getElem?_map, hs]
                rfl
              have HAW := hid haw
              have HTK := hid htk
              have HFY := hid hfy
              have HOY := hid hoy
              have HYH := hid hyh
              have HOB5 := hid hob5
              have HNP2 := hid hnp2
              have HGL := hid hgl
              have HZD := hid (show ∀ z ∈ rst (drp L1 (o.h :: o.inners.take j)) y, 1 ≤ z.h from fun z hz => hzd z (List.mem_filter.1 hz).1)
              have hng1 : ng + 1 + j ≤ 200000 := by have := K10.out; omega
              have hnp9 : np2 + oy.links.length ≤ 1000000 := by
                have h1 := (awa_tot K6.out HO.out).1
                rw [held_all (fnd_mem K6.out.nd HO.out)] at h1
                have h2 : ((o.h :: o.inners.take (j + 1)).flatMap (linksOf L1)).length ≤ ((o.h :: o.inners).flatMap (linksOf L1)).length := by
                  have e9 : (o.h :: o.inners).flatMap (linksOf L1) = (o.h :: o.inners.take (j + 1)).flatMap (linksOf L1) ++ (o.inners.drop (j + 1)).flatMap (linksOf L1) := by
                    rw [← List.flatMap_append, List.cons_append, List.take_append_drop]
                  rw [e9, List.length_append]
                  omega
                have h3 : linksOf L1 y = oy.links := by unfold linksOf; rw [hfy]
                rw [htk, ← List.cons_append, List.flatMap_append, List.length_append, List.flatMap_singleton, h3, ← hnp2] at h2
                have h4 : nf + totl L1 ≤ 1000000 := by
                  rcases K11.out with ⟨e, _⟩ | ⟨_, _, e4, _⟩
                  · simp only [Value.int.injEq, true_and] at e
                    omega
                  · exact e4
                omega
              clear hs htk hym hyn hfy hoy hyh haw hri hT5 hob5 hld hjo HJ hnp2 hgl hzd
              go_wp2_with fail
              refine HAW.out.mono ?_
              rintro e W6 ⟨rfl, F6, sy, iy, hT6, hke6, hoy6⟩
              have cy0 := hoy6.c0
              rw [HYH.out] at cy0
              have hr8 := hT6.rows.2.2.1
              rw [HGL.out] at hr8
              have hob6 := hke6 _ _ _ _ (K6.out.nz o HO.out).1 HOB5.out
              have HT6 := hid hT6
              have HOY6 := hid hoy6
              have HOB6 := hid hob6
              have HR8 := hid hr8
              clear hT6 hke6 hoy6 hr8 hob6 HOB5 HAW ci0 d5
              go_upto_region 15 with (at_builtin; refine wpList_append_lies _ (o := ⟨some 67, _, _, _, _, _⟩) rfl (.tmp 61) (.tmp 66) 43 rfl 0 TU i0 (.int .u64 0) 1 8 Try.underlying43 hi'.out hz0'.out hz1'.out hz2'.out rfl (by decide) (.slice a8' (ng + 1 + j) c8') (ng + 1 + j) _ rfl (HR8.out.alloc _) ⟨W6.heap.size, 0, none⟩ 1 1 [.int .u64 y] rfl rfl (one_news _ _ _ _ rfl) (by simp [Value.oneCell']) (by decide) (by unfold maxLen; omega) (by omega) (Nat.zero_le _) (W6.heap.size + 1) (by simp) ?_; intro g7 k7 W7 hown7 hgrow7 hat7 hlt7)
              have hfr7 : Fr (fun k => (Value.slice a8' (ng + 1 + j) c8').ownBlock = some k) W6 W7 := ((Fr.refl _ _).alloc _).grown hgrow7 (fun j hj _ => hj)
              obtain ⟨F7, hT7, hke7⟩ := HT6.out.push8 HZD.out (xs := (g ++ o.h :: o.inners.take j) ++ [y]) (v' := .slice (some ⟨g7, 0, none⟩) (ng + 1 + j + 1) k7) hfr7 (by rw [List.length_append, List.length_singleton, HGL.out, List.map_append]; exact hown7) (fun k hk => by
                simp only [Value.ownBlock, Option.some.injEq] at hk
                subst hk
                rcases hat7 with e | e
                · exact .inl e
                · right; omega)
              have hoy7 := hke7 _ _ _ _ (K6.out.nz oy HOY.out).1 (show RoC W6 F6 (B oy.h) sy iy oy by rw [HYH.out]; exact HOY6.out)
              have hob7 := hke7 _ _ _ _ (K6.out.nz o HO.out).1 HOB6.out
              have cy4 := hoy7.c4
              rw [HYH.out] at cy4
              have hsy := hoy7.hs
              have ho8 : oy.links.length ≤ 8 := (K6.out.lnk oy HOY.out).1
              obtain ⟨ay, cy, rfl⟩ := own_form hsy
              have hr2 := hT7.rows.2.1
              rw [← HNP2.out] at hr2
              obtain ⟨a6', c6', W8, r1, r2, r3, r4⟩ := append_links (t := 77) (ty := 77) Try.underlying77 hj'.out hy0'.out hy1'.out hy2'.out hr2 hsy (by omega) (Nat.zero_le _)
              have hfr8 : Fr (fun k => (Value.slice a2' np2 c2').ownBlock = some k) W7 W8 := (Fr.refl _ _).grown r3 (fun j hj _ => hj)
              obtain ⟨F8, hT8, hke8⟩ := hT7.push2 HZD.out (P' := (o.h :: o.inners.take j).flatMap (linksOf L1) ++ oy.links) (v' := .slice a6' (np2 + oy.links.length) c6') hfr8 (by rw [List.length_append, ← HNP2.out, lkv_app]; exact r2) (fun k hk => by
                rw [hk] at r4
                rcases r4 with e | e
                · exact .inl e.symm
                · right; simp only [Option.some.injEq] at e; omega)
              have hob8 := hke8 _ _ _ _ (K6.out.nz o HO.out).1 hob7
              have hfin : In2 w p pa A F B top L1 (.slice (some ⟨gq, 0, none⟩) nw1 c3) (.slice a9 nf c9) wa f g o (.slice al o.links.length cl) (.slice (some ⟨gi, 0, none⟩) M ci) (j + 1) (.slice a6' (np2 + oy.links.length) c6') (.slice (some ⟨g7, 0, none⟩) (ng + 1 + j + 1) k7) W8 := by
                refine ⟨F8, ?_, hob8⟩
                have h3 : linksOf L1 y = oy.links := by unfold linksOf; rw [HFY.out]
                rw [rst_drp, List.append_assoc, List.cons_append, ← HTK.out] at hT8
                rw [HTK.out, ← List.cons_append, List.flatMap_append, List.flatMap_singleton, h3]
                rw [HTK.out] at hT8
                simpa using hT8
              obtain ⟨m1, hm1⟩ : ∃ m, m = oy.links.length := ⟨_, rfl⟩
              rw [← hm1] at r1 cy4 hfin hnp9
              have R1 := hid r1
              have HFIN := hid hfin
              clear hfr7 hT7 hke7 hoy7 hob7 hsy hr2 r1 r2 r3 r4 hfr8 hT8 hke8 hob8 hown7 hgrow7 hat7 hlt7 HT6 HOY6 HOB6 HR8 hfin hm1 ho8 cy0
              go_wp2_with ((with_reducible refine at_op ⟨some 73, _, _, _, _, _⟩ ?_); refine wpList_append_v rfl (.tmp 68) (.tmp 72) 77 rfl _ _ _ W8 rfl rfl R1.out ?_)
              go_roundw
              case rel => exact ⟨j + 1, by omega, by go_num, HFIN⟩
              case measure => simp [intOf]; omega
            · obtain rfl : j = M := by omega
              have HT5 := hid hT5
              have HNP2 := hid hnp2
              clear hT5 hob5 hld HJ hzd hnp2
              go_wp2
              go_meet
              case rel =>
                have htk : o.inners.take j = o.inners := List.take_of_length_le (by rw [HM.out]; exact Nat.le_refl _)
                have hT5 := HT5.out
                rw [htk, HE.out] at hT5
                have hwh := HX.out
                have hh := held_all (fnd_mem K6.out.nd HO.out)
                rw [HE.out] at hh
                have e2 : drp L1 (x :: o.inners) = (awa L1 x).1 := by
                  rw [awa_some hwh]
                  unfold drp
                  refine List.filter_congr fun z _ => ?_
                  rw [List.contains_cons]
                rw [e2, ← hh] at hT5
                rcases K11.out with ⟨e, _⟩ | ⟨_, e3, e4, e5⟩
                · simp only [Value.int.injEq, true_and] at e
                  omega
                have htot := awa_tot K6.out HO.out
                rw [HE.out] at htot
                have e6 : (awa L1 x).2.2 = x :: o.inners := by rw [awa_some hwh]
                refine ⟨(awa L1 x).1, dn ++ [x], ws2, (awa L1 x).2.1, g ++ x :: o.inners, ?_, ?_, WQ.awa K7.out K6.out, by rw [K8.out]; simp, ?_, ?_, ?_, ?_, ?_, ?_, fun L' g' f' hgo => ?_⟩
                · exact hT5.goS
                · exact K6.out.awa x (fun z hz e => by
                    have : z = o := ob_eq K6.out.nd HO.out hz (by rw [e, HE.out])
                    rw [this]; exact HO0.out)
                · rw [List.length_append, List.length_singleton, ← HDL.out]; rfl
                · rw [List.length_append, List.length_singleton]; have := K9.out; omega
                · rw [List.length_append, List.length_cons, HNG.out]; have := K10.out; omega
                · omega
                · rw [HNF.out]; omega
                · intro l hl
                  rw [hh] at hl
                  obtain ⟨y, _, hy⟩ := List.mem_flatMap.1 hl
                  unfold linksOf at hy
                  cases hf : fnd L1 y with
                  | none => rw [hf] at hy; cases hy
                  | some z =>
                    rw [hf] at hy
                    exact (K6.out.lnk z (fnd_some hf).1).2 l hy
                · have hc : Goes L1 (x :: ws2) L' ((awa L1 x).2.2 ++ g') ((letg (awa L1 x).1 (awa L1 x).2.1).2.2 ++ f') := .cons hgo
                  rw [e6] at hc
                  have := e5 _ _ _ hc
                  rw [List.append_assoc]
                  exact this
      case rest =>
        obtain ⟨L2, dn2, ws2, P2, g2, hS2, q6, q7, q8, q9, q10, q11, q12, q13, q14, q15⟩ := hcut.out.ex
        obtain ⟨F2, hT2⟩ := hS2.goT
        obtain ⟨a5, c5, rfl⟩ := own_form hT2.rows.2.1
        obtain ⟨a6, c6, rfl⟩ := own_form hT2.rows.2.2.1
        have hI3 : In3 w p pa A F B top L2 (.slice a5 P2.length c5) (.slice a6 g2.length c6) wa ws2 f g2 P2 0 (.slice a3 nw1 c3) (.slice a9 nf c9) wc := by
          refine ⟨⟨F2, ?_⟩, ?_, ?_⟩
          · simpa [letg] using hT2
          · simpa [letg] using q6
          · simpa [letg] using q7
        obtain ⟨N, hN⟩ : ∃ N, N = P2.length := ⟨_, rfl⟩
        obtain ⟨ng2, hng2⟩ : ∃ N, N = g2.length := ⟨_, rfl⟩
        have hNb : N ≤ 1000000 := by omega
        have Q8 := hid q8
        have Q9 := hid q9
        have Q10 := hid q10
        have Q11 := hid q11
        have Q12 := hid q12
        have Q13 := hid q13
        have Q14 := hid q14
        have Q15 := hid q15
        have HN := hid hN
        have HNG2 := hid hng2
        rw [← hN, ← hng2] at hI3
        have HI3 := hid hI3
        clear hI3 hS2 hT2 q6 q7 q8 q9 q10 q11 q12 q13 q14 q15 hcut HS K6 K7 K8 K9 K10 K11 HNG HNP HWL
        rw [← hN, ← hng2]
        clear hN hng2
        go_wp2_with fail
        go_loopw [1, 9, 14] (fun v1 v9 i wx => ∃ j : Nat, j ≤ N ∧ i = .int .i64 j ∧ RowKit.Hid (In3 w p pa A F B top L2 (.slice a5 N c5) (.slice a6 ng2 c6) wa ws2 f g2 P2 j v1 v9 wx)) (fun _ _ i _ => N - (intOf i).toNat)
        case atStart => exact ⟨0, Nat.zero_le _, rfl, HI3⟩
        case round =>
          obtain ⟨j, hj, rfl, HJ⟩ := hrel
          obtain ⟨⟨F5, hT5⟩, hi5, hw5⟩ := HJ.out
          obtain ⟨a1', c1', rfl⟩ := own_form hT5.rows.1
          obtain ⟨a9', c9', rfl⟩ := own_form hT5.rows.2.2.2
          by_cases hjl : j < N
          · have hjP : j < P2.length := by rw [← HN.out]; exact hjl
            have hs : P2[j]? = some P2[j] := List.getElem?_eq_getElem hjP
            have htk : P2.take (j + 1) = P2.take j ++ [P2[j]] := by rw [List.take_succ_eq_append_getElem hjP]
            generalize P2[j] = l at hs htk
            have hlk := Q14.out l (List.mem_of_getElem? hs)
            have hrow := hT5.rows.2.1
            rw [← HN.out] at hrow
            obtain ⟨gh, kh, hvh, _⟩ := hrow.form (by omega)
            simp only [Value.slice.injEq] at hvh
            obtain ⟨rfl, -, rfl⟩ := hvh
            obtain ⟨e1, e2⟩ := lkv_at P2 j l hs
            have m0 : wr.cell? ⟨gh, j * 2, none⟩ = some (.int .i64 l.kind) := by rw [hrow.cellAt _ (by omega)]; exact e1
            have m1 : wr.cell? ⟨gh, j * 2 + 1, none⟩ = some (.int .u64 l.h) := by rw [hrow.cellAt _ (by omega)]; exact e2
            have hap := letg_app L2 (P2.take j) l
            rw [← htk] at hap
            have hfal := (len_letg (P2.take j) L2).2
            have hlal := (len_letg (P2.take j) L2).1
            rw [List.length_take] at hfal
            have hwsl := hw5.len
            have HT5 := hid hT5
            have HI5 := hid hi5
            have HW5 := hid hw5
            have HAP := hid hap
            have HLKL := hid hlk
            obtain ⟨La, hLa⟩ : ∃ X, X = (letg L2 (P2.take j)).1 := ⟨_, rfl⟩
            obtain ⟨wsa, hwsa⟩ : ∃ X, X = (letg L2 (P2.take j)).2.1 := ⟨_, rfl⟩
            obtain ⟨fa, hfa⟩ : ∃ X, X = (letg L2 (P2.take j)).2.2 := ⟨_, rfl⟩
            rw [← hLa, ← hwsa, ← hfa] at HT5 HAP
            rw [← hLa] at HI5
            rw [← hLa, ← hwsa] at HW5 hwsl
            rw [← hLa] at hlal
            rw [← hfa] at hfal
            rw [← hwsa, ← hfa]
            obtain ⟨kd, hkd⟩ : ∃ k, k = l.kind := ⟨_, rfl⟩
            obtain ⟨lh, hlh⟩ : ∃ k, k = l.h := ⟨_, rfl⟩
            rw [← hkd] at m0
            rw [← hlh] at m1
            have HKD := hid hkd
            have HLH := hid hlh
            rw [← hkd] at e1
            have HE1 := hid e1
            clear HJ hT5 hi5 hw5 hap hlk hs htk hrow e1 e2 hjP hLa hwsa hfa hkd hlh
            obtain ⟨n1, hn1⟩ : ∃ n, n = (wa ++ wsa).length := ⟨_, rfl⟩
            obtain ⟨n9, hn9⟩ : ∃ n, n = (f ++ fa).length := ⟨_, rfl⟩
            rw [← hn1, ← hn9] at HT5 ⊢
            have HN1 := hid hn1
            have HN9 := hid hn9
            clear hn1 hn9
            have hzL : ∀ o ∈ La, 1 ≤ o.h := fun o ho => (HI5.out.nz o ho).1
            have HZL := hid hzL
            have hb9 : n9 ≤ 3000000 := by
              have := HN9.out
              rw [List.length_append] at this
              have := Q13.out
              have := HN.out
              omega
            have hb1 : n1 ≤ 300000 := by
              have h1 := HN1.out
              rw [Q8.out, List.length_append, List.length_append] at h1
              rw [List.length_append] at hwsl
              have := Q10.out
              omega
            have HLL := hid (show La.length ≤ 1000000 by have := Q10.out; omega)
            clear hfal hlal hwsl
            clear hzL
            by_cases hk2 : kd = 2
            · have HLET : RowKit.Hid (let1 La l = (La, [], [l.h])) := by
                have : l.kind = 2 := by rw [← HKD.out]; exact hk2
                show let1 La l = (La, [], [l.h])
                unfold let1
                rw [if_pos this]
              have t2 : (kd == 2) = true := by simpa using hk2
              have t1 : (kd != 1) = true := by simp; omega
              have hr9 := HT5.out.rows.2.2.2
              rw [← HN9.out] at hr9
              have HR9 := hid hr9
              clear hr9 hk2
              go_upto_region 21 with (at_builtin; refine wpList_append_lies _ (o := ⟨some 93, _, _, _, _, _⟩) rfl (.tmp 86) (.tmp 92) 43 rfl 0 TU i0 (.int .u64 0) 1 8 Try.underlying43 hi'.out hz0'.out hz1'.out hz2'.out rfl (by decide) (.slice a9' n9 c9') n9 _ rfl (HR9.out.alloc _) ⟨wr.heap.size, 0, none⟩ 1 1 [.int .u64 lh] rfl rfl (one_news _ _ _ _ rfl) (by simp [Value.oneCell']) (by decide) (by unfold maxLen; omega) (by omega) (Nat.zero_le _) (wr.heap.size + 1) (by simp) ?_; intro g7 k7 W7 hown7 hgrow7 hat7 hlt7; have HO7 := hid hown7; have HG7 := hid hgrow7; have HA7 := hid hat7; clear hown7 hgrow7 hat7)
              have hfr7 : Fr (fun k => (Value.slice a9' n9 c9').ownBlock = some k) wr W7 := ((Fr.refl _ _).alloc _).grown HG7.out (fun j hj _ => hj)
              obtain ⟨F7, hT7, _⟩ := HT5.out.push9 HZL.out (xs := f ++ fa ++ [lh]) (v' := .slice (some ⟨g7, 0, none⟩) (n9 + 1) k7) hfr7 (by rw [List.length_append, List.length_singleton, ← HN9.out, List.map_append]; exact HO7.out) (fun k hk => by
                  simp only [Value.ownBlock, Option.some.injEq] at hk
                  subst hk
                  rcases HA7.out with e | e
                  · exact .inl e
                  · right; omega)
              have hrw7 := hT7.rows.2.1
              rw [← HN.out] at hrw7
              have m07 : W7.cell? ⟨gh, j * 2, none⟩ = some (.int .i64 kd) := by rw [hrw7.cellAt _ (by omega)]; exact HE1.out
              have HT7 := hid hT7
              clear hfr7 hT7 hrw7 m0 m1
              go_wp2
              go_roundw
              case rel =>
                refine ⟨j + 1, by omega, by go_num, In3.next HAP.out HI5.out HW5.out (F5 := F7) ?_⟩
                rw [HLET.out, ← HLH.out]
                simpa using HT7.out
              case measure => simp [intOf]; omega
            · by_cases hk1 : kd = 1
              · have t2 : (kd == 2) = false := by simpa using hk2
                have t1 : (kd != 1) = false := by simpa using hk1
                have H1 := hid (show l.kind = 1 from by rw [← HKD.out]; exact hk1)
                obtain ⟨SaT, AT, lvT, hET, hDT, hFT⟩ := HT5.out.ex
                have hLl := HLL.out
                cases hwl : whl La lh with
                | none =>
                  have hwn := RWhole_none hET.h hLl ((whl_none HI5.out).1 hwl)
                  have HWN := hid hwn
                  have HLET : RowKit.Hid (let1 La l = (La, [], [])) := by
                    show let1 La l = (La, [], [])
                    unfold let1
                    rw [H1.out, ← HLH.out, hwl]
                    simp
                  clear hwn hwl hET hDT hFT hk1 hk2 H1 hLl
                  go_wp2_with (refine HWN.out.mono ?_; rintro e w1 ⟨rfl, rfl⟩)
                  go_roundw
                  case rel => exact ⟨j + 1, by omega, by go_num, In3.same HAP.out HI5.out HW5.out HLET.out HT5.out⟩
                  case measure => simp [intOf]; omega
                | some x =>
                  have hws := RWhole_some hET.h hLl HI5.out hwl
                  obtain ⟨hxm, hx0⟩ := whl_some HI5.out hwl
                  obtain ⟨sx, ix, hbx⟩ := hET.h.ob x hxm
                  have cx0 := hbx.c0
                  have cx2 := hbx.c2
                  have zx2 := hbx.fz 2
                  have hcb := HI5.out.cnt x hxm
                  have hto := HTOP.out
                  have HWS := hid hws
                  have HXM := hid hxm
                  have HWL := hid hwl
                  obtain ⟨bx, hbxx⟩ : ∃ b, b = B x.h := ⟨_, rfl⟩
                  rw [← hbxx] at cx0 cx2 zx2
                  have HBX := hid hbxx
                  have HWS2 := HWS.out
                  rw [← hbxx] at HWS2
                  have HWS3 := hid HWS2
                  obtain ⟨cn, hcn⟩ : ∃ c, c = x.count := ⟨_, rfl⟩
                  obtain ⟨xh, hxh⟩ : ∃ c, c = x.h := ⟨_, rfl⟩
                  rw [← hcn] at cx2 hcb
                  rw [← hxh] at cx0
                  have HCN := hid hcn
                  have HXH := hid hxh
                  have HLET : RowKit.Hid (let1 La l = if cn = 0 then (La, [], []) else (Go.Proofs.Ytmkajdfajcodjaa.setc La xh (cn - 1), if cn = 1 then [xh] else [], [])) := by
                    show let1 La l = if cn = 0 then (La, [], []) else (Go.Proofs.Ytmkajdfajcodjaa.setc La xh (cn - 1), if cn = 1 then [xh] else [], [])
                    unfold let1
                    rw [H1.out, ← HLH.out, hwl, hcn, hxh]
                    simp
                  clear hws hxm hwl hET hDT hFT hk1 hk2 H1 hLl hbx hcn hxh hbxx HWS2 HWS hto
                  by_cases hc0 : cn = 0
                  · have tc : (cn == 0) = true := by simpa using hc0
                    have HL2 : RowKit.Hid (let1 La l = (La, [], [])) := by
                      have := HLET.out
                      rw [if_pos hc0] at this
                      exact this
                    clear hc0
                    go_wp2_with (refine HWS3.out.mono ?_; rintro e w1 ⟨rfl, rfl⟩)
                    go_roundw
                    case rel => exact ⟨j + 1, by omega, by go_num, In3.same HAP.out HI5.out HW5.out HL2.out HT5.out⟩
                    case measure => simp [intOf]; omega
                  · have tc : (cn == 0) = false := by simpa using hc0
                    have hwr : IntKind.u32.wrap (cn - 1) = cn - 1 := wrap_dec hcb.1 hcb.2 HTOP.out hc0
                    have hset := HT5.out.setc HI5.out.nd HXM.out (HZL.out x HXM.out) (cn - 1)
                    rw [← HBX.out, ← HXH.out] at hset
                    have HSET := hid hset
                    have HC0 := hid hc0
                    clear hset hcb hc0 hx0
                    have HL3 : RowKit.Hid (let1 La l = (Go.Proofs.Ytmkajdfajcodjaa.setc La xh (cn - 1), if cn = 1 then [xh] else [], [])) := by
                      have := HLET.out
                      rw [if_neg HC0.out] at this
                      exact this
                    clear HLET
                    have d0 : (wr.setCell ⟨bx, 2, none⟩ (.int .u32 (cn - 1))).cell? ⟨bx, 0, none⟩ = some (.int .u64 xh) := by rw [World.cell?_setCell_other _ _ _ _ (by simp)]; exact cx0
                    have d2 : (wr.setCell ⟨bx, 2, none⟩ (.int .u32 (cn - 1))).cell? ⟨bx, 2, none⟩ = some (.int .u32 (cn - 1)) := World.cell?_setCell_same _ _ _ cx2
                    have D0 := hid d0
                    have D2 := hid d2
                    clear d0 d2
                    go_upto_region 25 with (go_at_call 44; refine HWS3.out.mono ?_; rintro e w1 ⟨rfl, rfl⟩)
                    obtain ⟨w3, hw3⟩ : ∃ w3, w3 = wr.setCell ⟨bx, 2, none⟩ (.int .u32 (cn - 1)) := ⟨_, rfl⟩
                    rw [← hw3]
                    have d0 := D0.out
                    have d2 := D2.out
                    have hset := HSET.out
                    rw [← hw3] at d0 d2 hset
                    have HS3 := hid hset
                    clear hw3 hset D0 D2 HSET cx0 cx2 zx2 m0 m1 hwr tc
                    by_cases hc1 : cn = 1
                    · have td : (cn - 1 == 0) = true := by simp; omega
                      have hr1 := HS3.out.rows.1
                      rw [← HN1.out] at hr1
                      have HR1 := hid hr1
                      have HC1 := hid hc1
                      have hz9 : ∀ z ∈ Go.Proofs.Ytmkajdfajcodjaa.setc La xh (cn - 1), 1 ≤ z.h := fun z hz => by
                        obtain ⟨q, hq, e, _⟩ := setc_mem hz
                        rw [e]; exact HZL.out q hq
                      have HZ9 := hid hz9
                      clear hr1 hc1 hz9
                      go_wp2_with (at_builtin; refine wpList_append_lies _ (o := ⟨some 134, _, _, _, _, _⟩) rfl (.tmp 128) (.tmp 133) 43 rfl 0 TU i0 (.int .u64 0) 1 8 Try.underlying43 hi'.out hz0'.out hz1'.out hz2'.out rfl (by decide) (.slice a1' n1 c1') n1 _ rfl (HR1.out.alloc _) ⟨w3.heap.size, 0, none⟩ 1 1 [.int .u64 xh] rfl rfl (one_news _ _ _ _ rfl) (by simp [Value.oneCell']) (by decide) (by unfold maxLen; omega) (by omega) (Nat.zero_le _) (w3.heap.size + 1) (by simp) ?_; intro g7 k7 W7 hown7 hgrow7 hat7 hlt7; have HO7 := hid hown7; have HG7 := hid hgrow7; have HA7 := hid hat7; clear hown7 hgrow7 hat7)
                      go_roundw
                      case rel =>
                        have hfr7 : Fr (fun k => (Value.slice a1' n1 c1').ownBlock = some k) w3 W7 := ((Fr.refl _ _).alloc _).grown HG7.out (fun j hj _ => hj)
                        obtain ⟨F7, hT7, _⟩ := HS3.out.push1 HZ9.out (xs := wa ++ wsa ++ [xh]) (v' := .slice (some ⟨g7, 0, none⟩) (n1 + 1) k7) hfr7 (by rw [List.length_append, List.length_singleton, ← HN1.out, List.map_append]; exact HO7.out) (fun k hk => by
                          simp only [Value.ownBlock, Option.some.injEq] at hk
                          subst hk
                          rcases HA7.out with e | e
                          · exact .inl e
                          · right; omega)
                        refine ⟨j + 1, by omega, by go_num, In3.next HAP.out HI5.out HW5.out (F5 := F7) ?_⟩
                        rw [HL3.out, if_pos HC1.out]
                        simpa using hT7
                      case measure => simp [intOf]; omega
                    · have td : (cn - 1 == 0) = false := by simp; omega
                      have HC1 := hid hc1
                      clear hc1
                      go_wp2
                      go_roundw
                      case rel =>
                        refine ⟨j + 1, by omega, by go_num, In3.next HAP.out HI5.out HW5.out (F5 := F5) ?_⟩
                        rw [HL3.out, if_neg HC1.out]
                        simpa using HS3.out
                      case measure => simp [intOf]; omega
              · have HLET : RowKit.Hid (let1 La l = (La, [], [])) := by
                  have h2 : ¬ l.kind = 2 := by rw [← HKD.out]; exact hk2
                  have h1 : ¬ l.kind = 1 := by rw [← HKD.out]; exact hk1
                  show let1 La l = (La, [], [])
                  unfold let1
                  rw [if_neg h2, if_neg h1]
                have t2 : (kd == 2) = false := by simpa using hk2
                have t1 : (kd != 1) = true := by simpa using hk1
                clear hk1 hk2
                go_wp2
                go_roundw
                case rel => exact ⟨j + 1, by omega, by go_num, In3.same HAP.out HI5.out HW5.out HLET.out HT5.out⟩
                case measure => simp [intOf]; omega
          · obtain rfl : j = N := by omega
            clear hjl
            have HT5 := hid hT5
            have HI5 := hid hi5
            have HW5 := hid hw5
            clear HJ hT5 hi5 hw5
            go_wp2
            go_roundg (L2.length)
            case measure => exact Q12.out
            case rel =>
              have htk : P2.take j = P2 := List.take_of_length_le (by rw [← HN.out]; exact Nat.le_refl _)
              have h1 := HT5.out
              have h2 := HI5.out
              have h3 := HW5.out
              rw [htk] at h1 h2 h3 ⊢
              have hl1 := (len_letg P2 L2).1
              have hl2 := (len_letg P2 L2).2
              refine ⟨(letg L2 P2).1, _, dn2, ws2 ++ (letg L2 P2).2.1, P2, g2, _, h1.goS, h2, h3, by rw [Q8.out, List.append_assoc], by rw [hl1]; exact Q10.out, by rw [hl1]; exact Q11.out, .inr ⟨by have := Q9.out; go_num, hl1.symm, ?_, fun L' g' f' hgo => ?_⟩⟩
              · rw [List.length_append, totl_letg]
                have := Q13.out
                omega
              · rw [List.append_assoc]
                exact Q15.out _ _ _ hgo
    · have hdl : iv = dn.length ∧ ws1 = [] := by
        rcases hiv with ⟨e1, e2⟩ | e
        · omega
        · exact ⟨e, List.eq_nil_of_length_eq_zero (by omega)⟩
      obtain ⟨hd1, rfl⟩ := hdl
      have HS := hid hS
      have K11 := hid k11
      have hnl : wa.length = dn.length := by rw [k8, List.append_nil]
      generalize hnw : wa.length = nw1 at *
      clear hrel k6 k7 k8 k9 k10 k11 hS hwl hwal hnw
      have hnd : (decide (iv < (nw1 : Int))) = false := by simp; omega
      go_wp2
      go_ret2
      obtain ⟨⟨Sa9, A9, F9, lv9, q1, q2, q3, q4⟩, q5⟩ := HS.out
      rcases K11.out with ⟨e, e2, _⟩ | ⟨_, _, _, e4⟩
      · simp only [Value.int.injEq, true_and] at e
        omega
      · have hg := e4 L1 [] [] (.nil _)
        simp only [List.append_nil] at hg
        exact ⟨L1, g, f, Sa9, A9, F9, lv9, _, _, rfl, q1.r8, q1.r9, hg, q1.h, q2, q4, q5⟩
end
end Go.Proofs.Ytmkajdfajcodjaa
