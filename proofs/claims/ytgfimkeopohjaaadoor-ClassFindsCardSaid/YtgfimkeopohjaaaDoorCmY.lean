/- CmV CmW CmX CmY in one -/
import Derived.Test.YtgfimkeopohjaaaDoorClEn
import Derived.Test.YtgfimkeopohjaaaDoorClP
import Derived.Test.YtgfimkeopohjaaaDoorClB
import Derived.Test.YtgfimkeopohjaaaDoorCmC
import Derived.Test.YtgfimkeopohjaaaDoorClLd
namespace Go.Proofs.YtgfimkeopohjaaaDoor
open Go Go.ChangeShapes Go.WideShapes Go.ChangeAt Go.RowKit

/-- Blocks of other types stay. -/
structure Kpt (W W' : World) : Prop where
  size : W.heap.size ≤ W'.heap.size
  same : ∀ (k : Nat) cs t fr, W.heap[k]? = some (.cells cs t fr) → t ≠ 5 → W'.heap[k]? = some (.cells cs t fr)
theorem Kpt.refl (W : World) : Kpt W W := ⟨Nat.le_refl _, fun _ _ _ _ h _ => h⟩
theorem Kpt.trans {a b c : World} (h : Kpt a b) (k : Kpt b c) : Kpt a c := ⟨Nat.le_trans h.size k.size, fun j cs t fr hj ht => k.same j cs t fr (h.same j cs t fr hj ht) ht⟩
theorem Kpt.below {W W' : World} (h : Below W.heap.size W W') : Kpt W W' := ⟨h.size, fun k _ _ _ hk _ => (h.block k (lt_of_heap hk)).trans hk⟩
/-- What is laid behind. -/
def LayP (w1 W : World) (xs : List Int) (e : Ending) (W' : World) : Prop := ∃ v', e = .returned v' ∧ EB w1 W' v' xs ∧ Kpt W W'
theorem EB.kpt {w1 W wa w5 : World} {v : Value} {xs : List Int} (h : EB w1 W v xs) (ha : Below W.heap.size W wa) (hg : wa.grownBy w5 v.ownBlock) : Kpt W w5 :=
  ⟨Nat.le_trans ha.size hg.size, fun _ _ _ _ hk ht => h.other (Fr.of_below ha) hg hk ht⟩
theorem eb_nil (w1 : World) : EB w1 w1 (.slice none 0 0) [] := ⟨World.ownsRow_nil _ _ _ _, Below.refl _ _⟩
set_option maxRecDepth 100000 in
set_option maxHeartbeats 1000000 in
theorem layNumber_any (w1 W : World) (v : Value) (xs : List Int) (n : Int) (h : EB w1 W v xs) (hl : xs.length ≤ 1000000) :
    Calls Tryd.prog 33 #[v, .int .i64 n] W (LayP w1 W (xs ++ [u8w n])) := by
  obtain ⟨i0, hi, hz0, hz1, hz2⟩ := info_parts info5
  have hi' := hid hi
  have hz0' := hid hz0
  have hz1' := hid hz1
  have hz2' := hid hz2
  have HE := hid h
  obtain ⟨x, hx⟩ : ∃ x, x = u8w n := ⟨_, rfl⟩
  have wx : IntKind.u8.wrap n = x := hx.symm
  rw [← hx]
  clear hi hz0 hz1 hz2 h hx
  go_enter Tryd.func33, Tryd.ntmps33
  go_wp2_with (first
    | (at_builtin; refine wpList_append_own_at _ (o := ⟨some 9, _, _, _, _, _⟩) rfl (.tmp 5) (.tmp 8) 40 rfl w1.heap.size 5 i0 (.int .u8 0) 1 1 Tryd.underlying40 hi'.out hz0'.out hz1'.out hz2'.out rfl (by decide) v _ _ rfl (HE.out.1.alloc _) ⟨W.heap.size, 0, none⟩ 1 1 (u8l [x]) rfl rfl (World.news_of_block (heap_alloc_new W _)) (u8l_one _) (by unfold maxLen; omega) (by omega) (by have := HE.out.2.size; simp; omega) ?_; intro vz wz hownz hgrowz hnilz hatz; have HOz := hid hownz; have HGz := hid hgrowz; clear hownz hgrowz hnilz hatz)
    | fail)
  have hk := HE.out.kpt ((Below.refl _ _).alloc (Nat.le_refl _) _) HGz.out
  have hz := HE.out.push (zs := [x]) (frA W _) HOz.out HGz.out
  go_ret
  exact ⟨_, rfl, hz, hk⟩
set_option maxRecDepth 100000 in
set_option maxHeartbeats 1000000 in
theorem layOperand_any (w1 W : World) (v : Value) (xs : List Int) (n : Int) (h : EB w1 W v xs) (hl : xs.length ≤ 1000000) :
    Calls Tryd.prog 57 #[v, .int .i64 n] W (LayP w1 W (xs ++ lay [] (IntKind.u32.wrap n) 4)) := by
  obtain ⟨i0, hi, hz0, hz1, hz2⟩ := info_parts info5
  have hi' := hid hi
  have hz0' := hid hz0
  have hz1' := hid hz1
  have hz2' := hid hz2
  have HE := hid h
  obtain ⟨u, hu⟩ : ∃ x, x = IntKind.u32.wrap n := ⟨_, rfl⟩
  have wx : IntKind.u32.wrap n = u := hu.symm
  have hub : 0 ≤ u ∧ u ≤ 4294967295 := by
    have := Int.emod_nonneg n (show (4294967296 : Int) ≠ 0 by decide)
    have := Int.emod_lt_of_pos n (show (0 : Int) < 4294967296 by decide)
    have e : IntKind.u32.wrap n = n % 4294967296 := by rfl
    omega
  rw [← hu]
  clear hi hz0 hz1 hz2 h hu
  go_enter Tryd.func57, Tryd.ntmps57
  have e : lay [] u 4 = [u % 256, u / 256 % 256, u / 65536 % 256, u / 16777216] := by
    show [u % 256, u / 256 % 256, u / 256 / 256 % 256, u / 256 / 256 / 256 % 256] = _
    rw [show u / 256 / 256 % 256 = u / 65536 % 256 by omega, show u / 256 / 256 / 256 % 256 = u / 16777216 by omega]
  have HEQ := hid e
  clear e
  go_wp2_with (first
    | (at_builtin; refine wpList_append_own_at _ (o := ⟨some 21, _, _, _, _, _⟩) rfl (.tmp 8) (.tmp 20) 40 rfl w1.heap.size 5 i0 (.int .u8 0) 1 1 Tryd.underlying40 hi'.out hz0'.out hz1'.out hz2'.out rfl (by decide) v _ _ rfl (HE.out.1.alloc _) ⟨W.heap.size, 0, none⟩ 4 4 (u8l [u % 256, u / 256 % 256, u / 65536 % 256, u / 16777216]) rfl rfl (World.news_of_block (heap_alloc_new W _)) (u8l_one _) (by unfold maxLen; omega) (by omega) (by have := HE.out.2.size; simp; omega) ?_; intro vz wz hownz hgrowz hnilz hatz; have HOz := hid hownz; have HGz := hid hgrowz; clear hownz hgrowz hnilz hatz)
    | fail)
  have hk := HE.out.kpt ((Below.refl _ _).alloc (Nat.le_refl _) _) HGz.out
  have hz := HE.out.push (zs := [u % 256, u / 256 % 256, u / 65536 % 256, u / 16777216]) (frA W _) HOz.out HGz.out
  rw [HEQ.out]
  go_ret
  exact ⟨_, rfl, hz, hk⟩
end Go.Proofs.YtgfimkeopohjaaaDoor

namespace Go.Proofs.YtgfimkeopohjaaaDoor
open Go Go.ChangeShapes Go.WideShapes Go.ChangeAt Go.RowKit

theorem take_step {α : Type} {f : α → List Int} {l : List α} {q : Nat} {x : α} (h : l[q]? = some x) : (l.take (q + 1)).flatMap f = (l.take q).flatMap f ++ f x := by
  rw [List.take_add_one, h, List.flatMap_append]
  simp
theorem take_le {α : Type} {f : α → List Int} {l : List α} {q : Nat} {x : α} (h : l[q]? = some x) : ((l.take q).flatMap f).length + (f x).length ≤ (l.flatMap f).length := by
  have h1 : l.flatMap f = (l.take q).flatMap f ++ (l.drop q).flatMap f := by rw [← List.flatMap_append, List.take_append_drop]
  rw [h1, flat_step h]
  simp
theorem take_all {α : Type} {f : α → List Int} {l : List α} : (l.take l.length).flatMap f = l.flatMap f := by rw [List.take_length]
/-- An instruction, copied into a block of its own. -/
def zInE : Array Value := #[.int .i64 0, .int .i64 0, .int .i64 0]
def boxE (w : World) (x : Ins) : World := (w.alloc (.cells zInE 61)).setRow w.heap.size (insA x)
theorem boxE_row (w : World) (x : Ins) : InI (boxE w x) w.heap.size x := setRow_heap _ _ _ _ _ (0, 0) (heap_alloc_new _ _)
theorem boxE_below (w : World) (x : Ins) : Below w.heap.size w (boxE w x) := below_setRow ((Below.refl _ _).alloc (Nat.le_refl _) _) _ _ (Nat.le_refl _)
set_option maxRecDepth 100000 in
theorem sizeE (x : Ins) : (Tryd.prog.info? 61).map (·.size) = some (insA x).size := by
  show _ = some 3
  kernel_rfl
theorem oneE (x : Ins) : (insA x).all (·.oneCell') = true := by simp [insA, insc, Value.oneCell']
theorem InI.kpt {W W' : World} {b : Nat} {x : Ins} (h : InI W b x) (hk : Kpt W W') : InI W' b x := hk.same _ _ _ _ h (by decide)
set_option maxRecDepth 100000 in
set_option maxHeartbeats 4000000 in
theorem layMethod_any (w1 W : World) (v : Value) (xs : List Int) (vl : Value) (l : List Ins) (h : EB w1 W v xs) (hI : SlI w1 w1.heap.size vl l) (hl : xs.length + (meF l).length ≤ 1000000) :
    Calls Tryd.prog 48 #[v, vl] W (LayP w1 W (xs ++ meF l)) := by
  obtain ⟨a, c, rfl, hR, hc1, hc2, hok⟩ := hI
  have HE := hid h
  obtain ⟨n, hn⟩ : ∃ n, n = l.length := ⟨_, rfl⟩
  rw [← hn] at hc1 ⊢
  have HN := hid hn
  have HR := hid hR
  have HC := hid (layNumber_any w1 W v xs n h (by omega))
  obtain ⟨y0, hy0⟩ : ∃ y, y = xs ++ [u8w (n : Int)] := ⟨_, rfl⟩
  have HY := hid hy0
  have HM := hid (show xs ++ meF l = y0 ++ l.flatMap inF by rw [hy0, hn]; simp [meF])
  have hly : y0.length + (l.flatMap inF).length ≤ 1000000 := by
    have := congrArg List.length HM.out
    simp only [List.length_append] at this
    omega
  rw [← hy0] at HC
  rw [HM.out]
  clear hR h hl hn hok hy0
  go_enter Tryd.func48, Tryd.ntmps48
  go_wp2_with fail
  refine HC.out.mono ?_
  rintro e w2 ⟨v2, rfl, hE2, hK2⟩
  have HE2 := hid hE2
  have HK2 := hid hK2
  clear hE2 hK2 HC HE
  go_wp2
  go_loopw [13, 0] (fun p u wr => ∃ q : Nat, q ≤ n ∧ p = .int .i64 q ∧ RowKit.Hid (EB w1 wr u (y0 ++ (l.take q).flatMap inF)) ∧ RowKit.Hid (Kpt W wr)) (fun p _ _ => n - (intOf p).toNat)
  case atStart => exact ⟨0, by omega, rfl, hid (by rw [List.take_zero, List.flatMap_nil, List.append_nil]; exact HE2.out), HK2⟩
  case round =>
    obtain ⟨q, hq, rfl, HEq, HKq⟩ := hrel
    clear HE2 HK2
    by_cases hqn : q < n
    · have hx : l[q]? = some (l[q]'(by have := HN.out; omega)) := List.getElem?_eq_getElem _
      generalize (l[q]'(by have := HN.out; omega)) = x at hx
      obtain ⟨b, o, rfl, hb⟩ := HR.out.at_ (by have := HN.out; omega)
      have HAT := hid ((HR.out.kept HEq.out.2).rows b o rfl q x hx)
      have hle := take_le (f := inF) hx
      have hfx : (inF x).length = 6 := by simp [inF, lay4_len]
      rw [hfx] at hle
      have HST := hid (show y0 ++ (l.take (q + 1)).flatMap inF = y0 ++ (l.take q).flatMap inF ++ [u8w x.op] ++ [u8w x.b] ++ lay [] (IntKind.u32.wrap x.a) 4 by rw [take_step hx]; simp [inF])
      obtain ⟨y, hy⟩ : ∃ y, y = y0 ++ (l.take q).flatMap inF := ⟨_, rfl⟩
      have hyl : y.length + 6 ≤ 1000000 := by rw [hy, List.length_append]; omega
      rw [← hy] at HEq HST
      have hbb := boxE_below wr x
      have HB5 := hid (boxE_row wr x)
      have HE5 := hid (HEq.out.on hbb)
      have HK5 := hid (HKq.out.trans (Kpt.below hbb))
      clear hx hle hfx hy hbb HEq HKq
      go_upto_region 5 with (first
        | ((with_reducible refine at_op ⟨some 16, _, _, _, _, _⟩ ?_); refine wpList_run rfl _ (load_ia rfl rfl HAT.out) ?_)
        | ((with_reducible refine at_op ⟨none, .store 61 (.tmp 6) (.tmp 16), _, _, _, _⟩ ?_); refine wpList_store_row rfl 61 _ _ rfl wr.heap.size (insA x) rfl rfl 61 zInE (heap_alloc_new _ _) (sizeE x) rfl (oneE x) ?_)
        | fail)
      change Code.wp _ _ _ _ (boxE wr x)
      obtain ⟨w5, hw5⟩ : ∃ w5, w5 = boxE wr x := ⟨_, rfl⟩
      obtain ⟨g5, hg5⟩ : ∃ g, g = wr.heap.size := ⟨_, rfl⟩
      rw [← hw5, ← hg5] at HB5
      rw [← hw5] at HE5 HK5 ⊢
      rw [← hg5]
      clear hw5 hg5 HAT
      have c0 := HB5.out.c0
      go_wp2_with fail
      refine (layNumber_any w1 w5 _ y x.op HE5.out (by omega)).mono ?_
      rintro e w6 ⟨v6, rfl, hE6, hK6⟩
      have HE6 := hid hE6
      have HK6 := hid (HK5.out.trans hK6)
      have HB6 := hid (HB5.out.kpt hK6)
      clear hE6 hK6 HE5 HK5 HB5 c0
      have c2 := HB6.out.c2
      go_wp2_with fail
      refine (layNumber_any w1 w6 v6 _ x.b HE6.out (by simp; omega)).mono ?_
      rintro e w7 ⟨v7, rfl, hE7, hK7⟩
      have HE7 := hid hE7
      have HK7 := hid (HK6.out.trans hK7)
      have HB7 := hid (HB6.out.kpt hK7)
      clear hE7 hK7 HE6 HK6 HB6 c2
      have c1 := HB7.out.c1
      go_wp2_with fail
      refine (layOperand_any w1 w7 v7 _ x.a HE7.out (by simp; omega)).mono ?_
      rintro e w8 ⟨v8, rfl, hE8, hK8⟩
      rw [← HST.out] at hE8
      have HE8 := hid hE8
      have HK8 := hid (HK7.out.trans hK8)
      clear hE8 hK8 HE7 HK7 HB7 c1
      go_wp2
      go_roundw
      case rel => exact ⟨q + 1, by omega, by go_num, HE8, HK8⟩
      case measure => simp [intOf]; omega
    · obtain rfl : q = n := by omega
      have HF := hid (show EB w1 wr u0 (y0 ++ l.flatMap inF) by
        have := HEq.out
        rwa [HN.out, take_all] at this)
      clear HEq
      go_wp2
      go_ret
      exact ⟨_, rfl, HF.out, HKq.out⟩
end Go.Proofs.YtgfimkeopohjaaaDoor

namespace Go.Proofs.YtgfimkeopohjaaaDoor
open Go Go.ChangeShapes Go.WideShapes Go.ChangeAt Go.RowKit

/-- A face, copied into a block of its own. -/
def zFaX : Array Value := (fcl ⟨List.replicate 16 0, 0⟩).toArray
def InX (W : World) (b : Nat) (f : Face) : Prop := W.heap[b]? = some (.cells (fcl f).toArray 74 (0, 0))
def boxX (w : World) (f : Face) : World := (w.alloc (.cells zFaX 74)).setRow w.heap.size (fcl f).toArray
theorem boxX_row (w : World) (f : Face) : InX (boxX w f) w.heap.size f := setRow_heap _ _ _ _ _ (0, 0) (heap_alloc_new _ _)
theorem boxX_below (w : World) (f : Face) : Below w.heap.size w (boxX w f) := below_setRow ((Below.refl _ _).alloc (Nat.le_refl _) _) _ _ (Nat.le_refl _)
theorem zFaX_size {f : Face} (h : f.id.length = 16) : zFaX.size = (fcl f).toArray.size := by
  have e : zFaX.size = 17 := by rfl
  rw [e, List.size_toArray, fcl_len h]
set_option maxRecDepth 100000 in
theorem sizeX {f : Face} (h : f.id.length = 16) : (Tryd.prog.info? 74).map (·.size) = some (fcl f).toArray.size := by
  rw [List.size_toArray, fcl_len h]
  kernel_rfl
theorem InX.kpt {W W' : World} {b : Nat} {f : Face} (h : InX W b f) (hk : Kpt W W') : InX W' b f := hk.same _ _ _ _ h (by decide)
theorem InX.base {W : World} {b : Nat} {f : Face} (h : InX W b f) (hi : f.id.length = 16) : W.cell? ⟨b, 16, none⟩ = some (.int .i64 f.base) := by
  have h1 := AtL.row (cs := fcl f) h 16 _ (fcl_base hi)
  simpa using h1
theorem InX.id {W : World} {b : Nat} {f : Face} (h : InX W b f) : ∀ j u, (u8l f.id)[j]? = some u → W.cell? ((⟨b, 0, none⟩ : Addr).add j) = some u := fun j u hu => at_news (AtL.row (cs := fcl f) h) j u (by
  unfold fcl
  rw [List.getElem?_append_left (List.getElem?_eq_some_iff.1 hu).1]; exact hu)
theorem InC.kpt {W W' : World} {b : Nat} {c : Cls} {vf vm : Value} (h : InC W b c vf vm) (hk : Kpt W W') : InC W' b c vf vm := hk.same _ _ _ _ h (by decide)
theorem InC.idn {W : World} {b : Nat} {c : Cls} {vf vm : Value} (h : InC W b c vf vm) : ∀ j u, (u8l c.id)[j]? = some u → W.cell? ((⟨b, 0, none⟩ : Addr).add j) = some u := fun j u hu => at_news h.at j u (by
  unfold clc
  rw [List.getElem?_append_left (List.getElem?_eq_some_iff.1 hu).1]; exact hu)
theorem u8w_mod (z : Int) : u8w z = z % 256 := by
  show IntKind.u8.wrap z = _
  rw [IntKind.wrap_u8]
set_option maxRecDepth 100000 in
set_option maxHeartbeats 8000000 in
theorem layClass_any (w1 W : World) (v : Value) (xs : List Int) (c : Cls) (vf vm : Value) (h : EB w1 W v xs) (hC : ClC w1 w1.heap.size c vf vm) (hl : xs.length + (clF c).length ≤ 1000000) :
    Calls Tryd.prog 34 #[v, .agg (clc c vf vm).toArray] W (LayP w1 W (xs ++ clF c)) := by
  obtain ⟨i0, hi, hz0, hz1, hz2⟩ := info_parts info5
  have hi' := hid hi
  have hz0' := hid hz0
  have hz1' := hid hz1
  have hz2' := hid hz2
  obtain ⟨w2, hw2⟩ : ∃ w2, w2 = W.alloc (.cells (clc c vf vm).toArray 38) := ⟨_, rfl⟩
  have hb2 : Below W.heap.size W w2 := by rw [hw2]; exact (Below.refl _ _).alloc (Nat.le_refl _) _
  have hc2 : InC w2 W.heap.size c vf vm := by rw [hw2]; exact heap_alloc_new _ _
  have HE2 := hid (h.on hb2)
  have HK2 := hid (Kpt.below hb2)
  have HC2 := hid hc2
  have HW := hid hw2
  have HI := hid hC.id
  obtain ⟨af, kf, rfl, hF, hkf, hmf⟩ := hC.f
  obtain ⟨am, km, rfl, hM, hkm, hmm⟩ := hC.m
  have HFF := hid hF
  have HMM := hid hM
  obtain ⟨nf, hnf⟩ : ∃ n, n = c.faces.length := ⟨_, rfl⟩
  obtain ⟨nm, hnm⟩ : ∃ n, n = c.methods.length := ⟨_, rfl⟩
  have NF := hid hnf
  have NM := hid hnm
  rw [← hnf] at hkf HC2 HW ⊢
  rw [← hnm] at hkm HC2 HW ⊢
  have HFM := hid (show xs ++ clF c = xs ++ c.id ++ [u8w nf] ++ c.faces.flatMap faF ++ [u8w c.slots] ++ [u8w nm] ++ c.methods.flatMap meF by rw [hnf, hnm]; simp [clF])
  have hbd : xs.length + 16 + 1 + (c.faces.flatMap faF).length + 1 + 1 + (c.methods.flatMap meF).length ≤ 1000000 := by
    have := congrArg List.length HFM.out
    simp only [List.length_append, List.length_cons, List.length_nil, hC.id] at this hl
    omega
  obtain ⟨T, hT⟩ : ∃ T, T = xs ++ clF c := ⟨_, rfl⟩
  rw [← hT] at HFM ⊢
  have HID16 := hid (show (xs ++ c.id).length = xs.length + 16 by rw [List.length_append, hC.id])
  clear hi hz0 hz1 hz2 h hb2 hc2 hw2 hC hF hM hnf hnm hl hT
  obtain ⟨s, hs⟩ : ∃ s, s = c.slots := ⟨_, rfl⟩
  have HS := hid hs
  rw [← hs] at HFM
  clear hs
  obtain ⟨a2, k2, hv2⟩ := own_form HE2.out.1
  subst hv2
  have HNW := hid HC2.out.idn
  go_enter Tryd.func34, Tryd.ntmps34
  go_upto_region 1 with (fail)
  change Code.wp _ _ _ _ (W.alloc (.cells (clc c (.slice af nf kf) (.slice am nm km)).toArray 38))
  rw [← HW.out]
  clear HW
  obtain ⟨g3, hg3⟩ : ∃ g, g = W.heap.size := ⟨_, rfl⟩
  rw [← hg3] at HC2 HNW ⊢
  clear hg3
  go_upto_region 2 with (first
    | (at_builtin; refine wpList_append_own_at _ (o := ⟨some 12, _, _, _, _, _⟩) rfl (.tmp 9) (.tmp 11) 40 rfl w1.heap.size 5 i0 (.int .u8 0) 1 1 Tryd.underlying40 hi'.out hz0'.out hz1'.out hz2'.out rfl (by decide) (.slice a2 xs.length k2) _ _ rfl HE2.out.1 ⟨g3, 0, none⟩ 16 16 (u8l c.id) rfl (by rw [u8l_len, HI.out]) HNW.out (u8l_one _) (by unfold maxLen; omega) (by omega) (by have := HE2.out.2.size; simp; omega) ?_; intro vz wz hownz hgrowz hnilz hatz; have HOz := hid hownz; have HGz := hid hgrowz; clear hownz hgrowz hnilz hatz)
    | fail)
  have hk := HE2.out.kpt (Below.refl _ _) HGz.out
  have hz := HE2.out.push (zs := c.id) (Fr.refl _ w2) HOz.out HGz.out
  obtain ⟨w6, hwn⟩ : ∃ x, x = wz := ⟨_, rfl⟩
  obtain ⟨v6, hvn⟩ : ∃ x, x = vz := ⟨_, rfl⟩
  rw [← hwn, ← hvn] at hz
  rw [← hwn] at hk
  rw [← hwn, ← hvn]
  have HE6 := hid hz
  have HK6 := hid (HK2.out.trans hk)
  have HC6 := hid (HC2.out.kpt hk)
  clear hz hk hwn hvn HOz HGz HE2 HNW HC2 HK2
  have c16 := HC6.out.cf HI.out
  go_wp2_with fail
  refine (layNumber_any w1 w6 v6 _ nf HE6.out (by rw [HID16.out]; omega)).mono ?_
  rintro e w7 ⟨v7, rfl, hE7, hK7⟩
  obtain ⟨y0, hy0⟩ : ∃ y, y = xs ++ c.id ++ [u8w (nf : Int)] := ⟨_, rfl⟩
  have hyl : y0.length = xs.length + 17 := by rw [hy0, List.length_append, HID16.out]; rfl
  rw [← hy0] at hE7 HFM
  have HE7 := hid hE7
  have HK7 := hid (HK6.out.trans hK7)
  have HC7 := hid (HC6.out.kpt hK7)
  clear hE7 hK7 HE6 HK6 HC6 c16 hy0 HID16
  have c16 := HC7.out.cf HI.out
  go_wp2
  clear c16
  go_loopw [21, 0] (fun p u wr => ∃ q : Nat, q ≤ nf ∧ p = .int .i64 q ∧ RowKit.Hid (EB w1 wr u (y0 ++ (c.faces.take q).flatMap faF)) ∧ RowKit.Hid (Kpt W wr) ∧ RowKit.Hid (InC wr g3 c (.slice af nf kf) (.slice am nm km))) (fun p _ _ => nf - (intOf p).toNat)
  case atStart => exact ⟨0, by omega, rfl, hid (by rw [List.take_zero, List.flatMap_nil, List.append_nil]; exact HE7.out), HK7, HC7⟩
  case round =>
    obtain ⟨q, hq, rfl, HEq, HKq, HCq⟩ := hrel
    clear HE7 HK7 HC7
    by_cases hqn : q < nf
    · have hx : c.faces[q]? = some (c.faces[q]'(by have := NF.out; omega)) := List.getElem?_eq_getElem _
      generalize (c.faces[q]'(by have := NF.out; omega)) = x at hx
      obtain ⟨b, o, rfl, hb⟩ := HFF.out.some (by have := NF.out; omega)
      have HL1 := hid (HFF.out.len x (List.mem_of_getElem? hx))
      have HAT := hid (show AtL wr b (o + q * 17) (fcl x) from fun j u hu => (HFF.out.below HEq.out.2).cells b o rfl q x hx j u hu)
      have hle := take_le (f := faF) hx
      have hfx : (faF x).length = 17 := by simp [faF, HL1.out]
      rw [hfx] at hle
      have HST := hid (show y0 ++ (c.faces.take (q + 1)).flatMap faF = y0 ++ (c.faces.take q).flatMap faF ++ x.id ++ [u8w (wrap64 (x.base + 1))] by rw [take_step hx, u8w_mod]; simp [faF])
      obtain ⟨y, hy⟩ : ∃ y, y = y0 ++ (c.faces.take q).flatMap faF := ⟨_, rfl⟩
      have hyy : y.length + 17 ≤ 1000000 := by rw [hy, List.length_append]; omega
      rw [← hy] at HEq HST
      have hbb := boxX_below wr x
      have HX5 := hid (boxX_row wr x)
      have HE5 := hid (HEq.out.on hbb)
      have HK5 := hid (HKq.out.trans (Kpt.below hbb))
      have HC5 := hid (HCq.out.on hbb)
      clear hx hle hfx hy hbb HEq HKq HCq
      go_upto_region 6 with (first
        | ((with_reducible refine at_op ⟨some 24, _, _, _, _, _⟩ ?_); refine wpList_run rfl _ (load_face rfl rfl HAT.out HL1.out) ?_)
        | ((with_reducible refine at_op ⟨none, .store 74 (.tmp 6) (.tmp 24), _, _, _, _⟩ ?_); refine wpList_store_row rfl 74 _ _ rfl wr.heap.size (fcl x).toArray rfl rfl 74 zFaX (heap_alloc_new _ _) (sizeX HL1.out) (zFaX_size HL1.out) (all_oneCell_toArray (fcl_oneD x)) ?_)
        | fail)
      change Code.wp _ _ _ _ (boxX wr x)
      obtain ⟨w5, hw5⟩ : ∃ w5, w5 = boxX wr x := ⟨_, rfl⟩
      obtain ⟨g5, hg5⟩ : ∃ g, g = wr.heap.size := ⟨_, rfl⟩
      rw [← hw5, ← hg5] at HX5
      rw [← hw5] at HE5 HK5 HC5 ⊢
      rw [← hg5]
      clear hw5 hg5 HAT
      have HNX := hid HX5.out.id
      obtain ⟨a5, k5, hv5⟩ := own_form HE5.out.1
      subst hv5
      go_upto_region 7 with (first
        | (at_builtin; refine wpList_append_own_at _ (o := ⟨some 28, _, _, _, _, _⟩) rfl (.tmp 25) (.tmp 27) 40 rfl w1.heap.size 5 i0 (.int .u8 0) 1 1 Tryd.underlying40 hi'.out hz0'.out hz1'.out hz2'.out rfl (by decide) (.slice a5 y.length k5) _ _ rfl HE5.out.1 ⟨g5, 0, none⟩ 16 16 (u8l x.id) rfl (by rw [u8l_len, HL1.out]) HNX.out (u8l_one _) (by unfold maxLen; omega) (by omega) (by have := HE5.out.2.size; simp; omega) ?_; intro vz wz hownz hgrowz hnilz hatz; have HOz := hid hownz; have HGz := hid hgrowz; clear hownz hgrowz hnilz hatz)
        | fail)
      have hk := HE5.out.kpt (Below.refl _ _) HGz.out
      have hz := HE5.out.push (zs := x.id) (Fr.refl _ w5) HOz.out HGz.out
      obtain ⟨w8, hwn⟩ : ∃ x, x = wz := ⟨_, rfl⟩
      obtain ⟨v8, hvn⟩ : ∃ x, x = vz := ⟨_, rfl⟩
      rw [← hwn, ← hvn] at hz
      rw [← hwn] at hk
      rw [← hwn, ← hvn]
      have HE8 := hid hz
      have HK8 := hid (HK5.out.trans hk)
      have HC8 := hid (HC5.out.kpt hk)
      have HX8 := hid (HX5.out.kpt hk)
      have HL8 := hid (show (y ++ x.id).length = y.length + 16 by rw [List.length_append, HL1.out])
      clear hz hk hwn hvn HOz HGz HE5 HNX HC5 HK5 HX5
      have cb := HX8.out.base HL1.out
      go_wp2_with fail
      refine (layNumber_any w1 w8 v8 _ _ HE8.out (by rw [HL8.out]; omega)).mono ?_
      rintro e w9 ⟨v9, rfl, hE9, hK9⟩
      rw [← HST.out] at hE9
      have HE9 := hid hE9
      have HK9 := hid (HK8.out.trans hK9)
      have HC9 := hid (HC8.out.kpt hK9)
      clear hE9 hK9 HE8 HK8 HC8 HX8 cb
      go_wp2
      go_roundw
      case rel => exact ⟨q + 1, by omega, by go_num, HE9, HK9, HC9⟩
      case measure => simp [intOf]; omega
    · obtain rfl : q = nf := by omega
      have HF := hid (show EB w1 wr u0 (y0 ++ c.faces.flatMap faF) by
        have := HEq.out
        rwa [NF.out, take_all] at this)
      obtain ⟨y1, hy1⟩ : ∃ y, y = y0 ++ c.faces.flatMap faF := ⟨_, rfl⟩
      have hyl1 : y1.length = y0.length + (c.faces.flatMap faF).length := by rw [hy1, List.length_append]
      rw [← hy1] at HF HFM
      clear HEq hy1
      have c17 := HCq.out.cs HI.out
      rw [← HS.out] at c17
      go_wp2_with fail
      refine (layNumber_any w1 wr u0 _ s HF.out (by omega)).mono ?_
      rintro e w10 ⟨v10, rfl, hE10, hK10⟩
      have HE10 := hid hE10
      have HK10 := hid (HKq.out.trans hK10)
      have HC10 := hid (HCq.out.kpt hK10)
      clear hE10 hK10 HF HKq HCq c17
      have c18 := HC10.out.cm HI.out
      go_wp2_with fail
      refine (layNumber_any w1 w10 v10 _ nm HE10.out (by simp; omega)).mono ?_
      rintro e w11 ⟨v11, rfl, hE11, hK11⟩
      obtain ⟨y2, hy2⟩ : ∃ y, y = y1 ++ [u8w s] ++ [u8w (nm : Int)] := ⟨_, rfl⟩
      have hyl2 : y2.length = y1.length + 2 := by rw [hy2]; simp
      rw [← hy2] at hE11 HFM
      have HE11 := hid hE11
      have HK11 := hid (HK10.out.trans hK11)
      have HC11 := hid (HC10.out.kpt hK11)
      clear hE11 hK11 HE10 HK10 HC10 c18 hy2
      have c18 := HC11.out.cm HI.out
      go_wp2
      clear c18
      go_loopw [47, 0] (fun p u wr => ∃ q : Nat, q ≤ nm ∧ p = .int .i64 q ∧ RowKit.Hid (EB w1 wr u (y2 ++ (c.methods.take q).flatMap meF)) ∧ RowKit.Hid (Kpt W wr)) (fun p _ _ => nm - (intOf p).toNat)
      case atStart => exact ⟨0, by omega, rfl, hid (by rw [List.take_zero, List.flatMap_nil, List.append_nil]; exact HE11.out), HK11⟩
      case round =>
        obtain ⟨k, hk, rfl, HEk, HKk⟩ := hrel
        clear HE11 HK11 HC11
        by_cases hkn : k < nm
        · have hx : c.methods[k]? = some (c.methods[k]'(by have := NM.out; omega)) := List.getElem?_eq_getElem _
          generalize (c.methods[k]'(by have := NM.out; omega)) = l at hx
          obtain ⟨b, o, rfl, hb⟩ := HMM.out.at_ (by have := NM.out; omega)
          obtain ⟨vl, hvc, hsl⟩ := HMM.out.rows b o rfl k l hx
          have cv := (World.cell?_of_block (w := w1) (w' := wr) (a := ⟨b, o + k, none⟩) (HEk.out.2.block b (World.block_lt_of_cell? w1 _ hvc))).trans hvc
          have hle := take_le (f := meF) hx
          have HST := hid (show y2 ++ (c.methods.take (k + 1)).flatMap meF = y2 ++ (c.methods.take k).flatMap meF ++ meF l by rw [take_step hx]; simp)
          have HSL := hid hsl
          obtain ⟨ad, cd, hvl, _⟩ := hsl
          subst hvl
          clear hx hvc
          go_wp2_with fail
          refine (layMethod_any w1 wr _ _ _ l HEk.out HSL.out (by rw [List.length_append]; omega)).mono ?_
          rintro e w12 ⟨v12, rfl, hE12, hK12⟩
          rw [← HST.out] at hE12
          have HE12 := hid hE12
          have HK12 := hid (HKk.out.trans hK12)
          clear hE12 hK12 HEk HKk cv hle
          go_wp2
          go_roundw
          case rel => exact ⟨k + 1, by omega, by go_num, HE12, HK12⟩
          case measure => simp [intOf]; omega
        · obtain rfl : k = nm := by omega
          have HF := hid (show EB w1 wr u0 T by
            have := HEk.out
            rw [NM.out, take_all] at this
            rw [HFM.out]
            exact this)
          clear HEk
          go_wp2
          go_ret
          exact ⟨_, rfl, HF.out, HKk.out⟩
end Go.Proofs.YtgfimkeopohjaaaDoor

namespace Go.Proofs.YtgfimkeopohjaaaDoor
open Go Go.ChangeShapes Go.WideShapes Go.ChangeAt Go.RowKit

set_option maxRecDepth 100000 in
set_option maxHeartbeats 8000000 in
theorem Encode_any (w : World) (hT : TabB w) (l : List Cls) (ad : Option Addr) (N cap : Nat) (hF : RwC w w.heap.size ad l) (hN : N = l.length) (hc : N ≤ cap) (_hcm : cap ≤ 9223372036854775807) (hsm : SmM l) :
    Calls Tryd.prog 14 #[.agg #[.slice ad N cap]] w (EnP w l) := by
  obtain ⟨w1, hw1⟩ : ∃ w1, w1 = w.alloc (.cells #[.slice ad N cap] 24) := ⟨_, rfl⟩
  have hb1 : Below w.heap.size w w1 := by rw [hw1]; exact (Below.refl _ _).alloc (Nat.le_refl _) _
  have hm1 : Boxed w1 w.heap.size 24 (.slice ad N cap) := by rw [hw1]; exact Boxed.new w _ _
  have HIDS := hid hF.ids
  have HCK := hid (CheckM_any w1 (hT.on hb1) ad N cap l (hF.on hb1) hN (by have := hsm.1; omega) hc fun c hc => by have := (hsm.2 c hc).1; omega)
  have HF1 := hid (hF.on hb1)
  have HN := hid hN
  have HB1 := hid hb1
  have HM := hid hm1
  have HW := hid hw1
  have cm0 := hm1.cell
  have hN12 : N ≤ 12 := by have := hsm.1; omega
  clear hF hN hb1 hm1 hw1 hT hsm
  obtain ⟨r, hr⟩ : ∃ r, r = chkM l := ⟨_, rfl⟩
  have HR := hid hr
  rw [← hr] at HCK
  obtain ⟨r1, r2⟩ := r
  simp only at HCK
  clear hr
  go_enter Tryd.func14, Tryd.ntmps14
  go_upto_region 1 with (fail)
  change Code.wp _ _ _ _ (w.alloc (.cells #[.slice ad N cap] 24))
  rw [← HW.out]
  go_wp2_with fail
  refine HCK.out.mono ?_
  rintro e w2 ⟨rfl, hb2⟩
  have HB2 := hid (HB1.out.trans (hb2.mono HB1.out.size))
  have HF2 := hid (HF1.out.on hb2)
  have HM2 := hid ((hb2.block w.heap.size HM.out.lt).trans HM.out)
  clear hb2 HCK HF1 HB1 HM HW cm0
  have cm2 : w2.cell? ⟨w.heap.size, 0, none⟩ = some (.slice ad N cap) := Boxed.cell HM2.out
  by_cases h0 : r2 = 0
  case neg =>
    have d0 : (r2 != 0) = true := by simpa using h0
    have HEN := hid (show encM l = [] by unfold encM; rw [← HR.out, if_neg h0])
    have HRR := hid (show (chkM l).2 = r2 by rw [← HR.out])
    clear h0
    go_wp2
    go_ret2
    unfold EnP
    rw [HEN.out, HRR.out]
    exact ⟨none, 0, rfl, Bs.nil _ _ _, Nat.le_refl _, by omega, HB2.out⟩
  have d0 : (r2 != 0) = false := by simpa using h0
  have HEN := hid (show encM l = formM l by unfold encM; rw [← HR.out, if_pos h0])
  have HRR := hid (show (chkM l).2 = 0 by rw [← HR.out]; exact h0)
  have hlen := form_small HRR.out HIDS.out
  have HFO := hid (show formM l = [u8w (N : Int)] ++ l.flatMap clF by rw [HN.out]; rfl)
  have hlen2 : (l.flatMap clF).length + 1 ≤ 1000000 := by
    rw [HFO.out, List.length_append] at hlen
    simp only [List.length_cons, List.length_nil] at hlen
    omega
  clear h0 hlen
  go_wp2_with fail
  refine (layNumber_any w2 w2 _ [] N (eb_nil w2) (by simp)).mono ?_
  rintro e w3 ⟨v3, rfl, hE3, hK3⟩
  have HE3 := hid (show EB w2 w3 v3 [u8w (N : Int)] from hE3)
  have cm3 : w3.cell? ⟨w.heap.size, 0, none⟩ = some (.slice ad N cap) := Boxed.cell (hK3.same _ _ _ _ HM2.out (by decide))
  clear hE3 hK3 cm2 d0
  go_wp2
  clear cm3
  go_loopw [24, 6] (fun p u wr => ∃ q : Nat, q ≤ N ∧ p = .int .i64 q ∧ RowKit.Hid (EB w2 wr u ([u8w (N : Int)] ++ (l.take q).flatMap clF))) (fun p _ _ => N - (intOf p).toNat)
  case atStart => exact ⟨0, by omega, rfl, hid (by rw [List.take_zero, List.flatMap_nil, List.append_nil]; exact HE3.out)⟩
  case round =>
    obtain ⟨q, hq, rfl, HEq⟩ := hrel
    clear HE3
    by_cases hqn : q < N
    · have hx : l[q]? = some (l[q]'(by have := HN.out; omega)) := List.getElem?_eq_getElem (by have := HN.out; omega)
      generalize (l[q]'(by have := HN.out; omega)) = f at hx
      obtain ⟨b, o, rfl, hb⟩ := HF2.out.at_ (by have := HN.out; omega)
      obtain ⟨vf, vm, hat, hcc⟩ := HF2.out.rows b o rfl q f hx
      have HAT := hid (hat.below HEq.out.2)
      have HLN := hid (clc_len (vf := vf) (vm := vm) hcc.id)
      have HIN := hid (show (Tryd.prog.info? 38).map (·.size) = some (clc f vf vm).toArray.size by rw [List.size_toArray, HLN.out]; exact sizeC)
      have HON := hid (show (clc f vf vm).toArray.all (·.oneCell') = true from clc_one (by obtain ⟨a, c, rfl, _⟩ := hcc.f; rfl) (by obtain ⟨a, c, rfl, _⟩ := hcc.m; rfl))
      have hle := take_le (f := clF) hx
      have HST := hid (show [u8w (N : Int)] ++ (l.take (q + 1)).flatMap clF = [u8w (N : Int)] ++ (l.take q).flatMap clF ++ clF f by rw [take_step hx]; simp)
      have hbc := boxD_below wr (clc f vf vm)
      have HC5 := hid (show InC (boxD wr (clc f vf vm)) wr.heap.size f vf vm from boxD_row _ _)
      have HE5 := hid (HEq.out.on hbc)
      have HCC := hid hcc
      clear hx hat hcc hbc HEq
      go_upto_region 8 with (first
        | ((with_reducible refine at_op ⟨some 27, _, _, _, _, _⟩ ?_); refine wpList_run rfl _ (load_c rfl rfl HAT.out HLN.out) ?_)
        | ((with_reducible refine at_op ⟨none, .store 38 (.tmp 8) (.tmp 27), _, _, _, _⟩ ?_); refine wpList_store_row rfl 38 _ _ rfl wr.heap.size (clc f vf vm).toArray rfl rfl 38 zC (heap_alloc_new _ _) HIN.out (by show 19 = _; rw [List.size_toArray, HLN.out]) HON.out ?_)
        | fail)
      change Code.wp _ _ _ _ (boxD wr (clc f vf vm))
      obtain ⟨w5, hw5⟩ : ∃ w5, w5 = boxD wr (clc f vf vm) := ⟨_, rfl⟩
      obtain ⟨g5, hg5⟩ : ∃ g, g = wr.heap.size := ⟨_, rfl⟩
      rw [← hw5, ← hg5] at HC5
      rw [← hw5] at HE5 ⊢
      rw [← hg5]
      have HA5 := hid HC5.out.at
      clear hw5 hg5 HAT HIN HON HC5
      go_wp2_with (first
        | ((with_reducible refine at_op ⟨some 29, _, _, _, _, _⟩ ?_); refine wpList_run rfl _ (load_c rfl rfl HA5.out HLN.out) ?_)
        | fail)
      refine (layClass_any w2 w5 _ _ f vf vm HE5.out HCC.out (by rw [List.length_append]; simp only [List.length_cons, List.length_nil]; omega)).mono ?_
      rintro e w6 ⟨v6, rfl, hE6, _⟩
      rw [← HST.out] at hE6
      have HE6 := hid hE6
      clear hE6 HE5 HA5 hle
      go_wp2
      go_roundw
      case rel => exact ⟨q + 1, by omega, by go_num, HE6⟩
      case measure => simp [intOf]; omega
    · obtain rfl : q = N := by omega
      have hE : EB w2 wr u6 (formM l) := by
        have := HEq.out
        rw [HFO.out]
        rwa [HN.out, take_all, ← HN.out] at this
      have HE := hid hE
      clear HEq hE
      go_wp2
      go_ret2
      obtain ⟨a, c, hv, h1, h2, _⟩ := own_cases HE.out.1
      subst hv
      unfold EnP
      rw [HEN.out, HRR.out]
      exact ⟨a, c, rfl, own_bs HE.out.1, h1, h2, HB2.out.trans (HE.out.2.mono HB2.out.size)⟩
theorem Encode_holds (w0 : World) (hT : TabB w0) : EnC w0 := fun l ad N cap w hb h hN hc hcm hs => Encode_any w (hT.on hb) l ad N cap h hN hc hcm hs
end Go.Proofs.YtgfimkeopohjaaaDoor
