/-
  guid.Sort: copy at elements of sixteen cells; the library's sort by guid.Compare; the contract.
-/
import Derived.Test.YtmmmjkmhlkkdkaaLay1
import Derived.Test.YtmmmjkmhlkkdkaaKRow
import Derived.Test.YtmmmjkmhlkkdkaaCmp
import Derived.Test.YtmmmjkmhlkkdkaaSortM
import Derived.Test.YtmmmjkmhlkkdkaaFr
import Derived.Test.YtmmmjkmhlkkdkaaLibB
import Derived.Deep.AppendSrc
import Derived.Laws.CopyOwn
namespace Go.Proofs.Ytmmmjkmhlkkdkaa
open Go Go.Shelf Go.RowKit Go.Lib Go.Sort

def enc16 (x : List Int) : List Value := (norm16 x).map (Value.int .u8)
theorem enc16_len (x : List Int) : (enc16 x).length = 16 := by simp [enc16, norm16_len]
theorem enc16_one (x : List Int) : ∀ v ∈ enc16 x, v.oneCell' = true := fun v hv => by
  obtain ⟨n, _, rfl⟩ := List.mem_map.1 hv
  rfl
def cf16 (x y : List Int) : Int := cmpL (norm16 x) (norm16 y)
theorem cmpLays16 (blk off size : Nat) (w : World) : CmpLays Try.prog 30 #[] enc16 16 cf16 blk off size w :=
  fun _ _ _ _ x y => (Compare_world (norm16 x) (norm16 y) _ (norm16_len x) (norm16_len y)).mono fun _ _ ⟨he, hw⟩ => by
    subst hw
    exact ⟨he, 0, _, by rw [alloc_eq_grow, alloc_eq_grow, grow_grow]; rfl⟩
theorem swoL : SWO (ltOf cf16) := swo16
/-- In order. -/
def InOrder (ys : List (List Int)) : Prop := ys.Pairwise fun a b => ¬ cf16 b a < 0
theorem SortG_any {w : World} {base g cap : Nat} {xs : List (List Int)} (h : w.ownsRow base 51 16 (.slice (some ⟨g, 0, none⟩) xs.length cap) xs.length (xs.flatMap enc16)) (hsz : xs.length ≤ 1000000) :
    Calls Try.prog 29 #[.slice (some ⟨g, 0, none⟩) xs.length cap, .func (.func 30) #[] #[]] w fun e w' => e = .returned (.tuple #[]) ∧
      (∃ ys : List (List Int), ys.Perm xs ∧ InOrder ys ∧ w'.ownsRow base 51 16 (.slice (some ⟨g, 0, none⟩) ys.length cap) ys.length (ys.flatMap enc16)) ∧ w.grownBy w' (some g) := by
  have hlt : g < w.heap.size := (h.lt g rfl).2
  have eg : ∀ args w, (callFunc 30 args).run Try.prog w = .ok (.enter 30 args) w := enters_of Try.func30 (by kernel_rfl) rfl
  have hcon := AnyQ.slices_SortFunc Try.sortG 16 Try.isAgg51 Try.sizeOf51 enc16 enc16_len enc16_one cf16 swoL 30 #[] g 0 cap xs.toArray w eg (cmpLays16 g 0 _ w) (holdsK_of_row enc16_len h) hlt (by simp; omega)
  change Calls Try.prog 29 _ _ _ at hcon
  refine (by simpa using hcon : Calls Try.prog 29 #[.slice (some ⟨g, 0, none⟩) xs.length cap, .func (.func 30) #[] #[]] w _).mono ?_
  rintro e w' ⟨rfl, d', ⟨hs, _, hperm⟩, hsort, n, os, rfl⟩
  have hsz' : d'.toList.length = xs.length := by simpa using hs
  have hpm : d'.toList.Perm xs := by
    have e1 : d'.extract 0 xs.length = d' := by
      have := Array.extract_size (xs := d'); rw [hs] at this; simpa using this
    have e2 : xs.toArray.extract 0 xs.length = xs.toArray := by
      simp
    rw [e1, e2] at hperm
    exact hperm
  refine ⟨rfl, ⟨d'.toList, hpm, ?_, ?_⟩, grownBy_sortedK _⟩
  · unfold InOrder
    rw [List.pairwise_iff_getElem]
    intro i j hi hj hij
    have hi' : i < d'.size := by simpa using hi
    have hj' : j < d'.size := by simpa using hj
    have h3 := hsort i j (Nat.zero_le _) hij (by rw [← hsz']; exact hj)
    rw [getElem!_pos d' i hi', getElem!_pos d' j hj'] at h3
    have h4 : decide (cf16 d'[j] d'[i] < 0) = false := h3
    simp only [Array.getElem_toList]
    simpa using h4
  · have := ownsRow_sortedK (n := n) (os := os) enc16_len (ys := d'.toList) hsz' h
    simpa using this

section
variable {P : Program}
/-- copy at elements of k cells: a whole row laid into a row. -/
theorem run_copy_rowK (w : World) (dT sT ty elem : TypeId) (g o dLen dCap k n : Nat) (a : Addr) (sLen sCap : Nat) (cur : Array Value) (t : TypeId) (cs : List Value)
    (hu : P.underlying dT = some (.slice elem)) (hs : (P.info? elem).map (·.size) = some k)
    (hg : w.heap[g]? = some (.cells cur t (0, 0))) (hn : n = Nat.min sLen dLen) (hcl : cs.length = n * k)
    (hsrc : ∀ j v, cs[j]? = some v → w.cell? (a.add j) = some v) (hfit : o + cs.length ≤ cur.size) (h1 : ∀ v ∈ cs, v.oneCell' = true) :
    (Builtin.copy_ #[dT, sT] ty #[.slice (some ⟨g, o, none⟩) dLen dCap, .slice (some a) sLen sCap]).run P w =
      .ok (goInt n) (w.setRow g (cur.toList.take o ++ cs ++ cur.toList.drop (o + cs.length)).toArray) := by
  have hst := run_storeCells_at P g o t cs 0 cur w hg (by simpa using hfit) h1
  have hf : (Builtin.firstCells k n (.slice (some a) sLen sCap)).run P w = .ok cs.toArray w := by
    have := run_loadCells_list (P := P) w a cs hsrc
    rw [hcl] at this
    simpa [Builtin.firstCells] using this
  cases hq : P.info? elem with
  | none => simp [hq] at hs
  | some i =>
    have hi : i.size = k := by simpa [hq] using hs
    simp [Builtin.copy_, run_underlying hu, Builtin.lenOf, sizeOf, typeInfo, hq, hi, ← hn, hf, hst]
theorem wpList_copyK {w : World} {ops : Array Oper} {rest : List Oper} {o : Oper} {a : Act} {Q : Exit → Act → World → Prop} (hgd : o.guard = none) (d s : Operand) (dT sT : TypeId)
    (ho : o.op = .call { callee := .builtin .copy, args := #[d, s], argTypes := #[dT, sT] }) (elem : TypeId) (hu : P.underlying dT = some (.slice elem)) (k : Nat) (hsz : (P.info? elem).map (·.size) = some k)
    (g off dLen dCap n : Nat) (ad : Addr) (sLen sCap : Nat) (hd : a.eval d = .slice (some ⟨g, off, none⟩) dLen dCap) (hs : a.eval s = .slice (some ad) sLen sCap)
    (cur : Array Value) (t : TypeId) (hg : w.heap[g]? = some (.cells cur t (0, 0))) (cs : List Value) (hn : n = Nat.min sLen dLen) (hcl : cs.length = n * k)
    (hsrc : ∀ j v, cs[j]? = some v → w.cell? (ad.add j) = some v) (hfit : off + cs.length ≤ cur.size) (h1 : ∀ v ∈ cs, v.oneCell' = true)
    (h : wpList P ops Q rest (a.put o.dst (goInt n)) (w.setRow g (cur.toList.take off ++ (cs ++ cur.toList.drop (off + cs.length))).toArray)) : wpList P ops Q (o :: rest) a w := by
  refine wpList_plain hgd fun K hK => ?_
  have hrun := run_copy_rowK (P := P) w dT sT o.type elem g off dLen dCap k n ad sLen sCap cur t cs hu hsz hg hn hcl hsrc hfit h1
  unfold Oper.wp
  simp [execOp, ho, resolve, invoke, builtin, hd, hs, hrun, Result.andThen]
  exact hK _ _ h
end
def SortPost (w : World) (xs : List (List Int)) (e : Ending) (w' : World) : Prop :=
  ∃ (ys : List (List Int)) (v : Value), e = .returned v ∧ ys.Perm xs ∧ InOrder ys ∧ w'.ownsRow w.heap.size 51 16 v ys.length (ys.flatMap enc16) ∧ Fr (fun _ => False) w w'
theorem info51 : (Try.prog.info? 51).map (fun i => (i.zero, i.size, i.bytes)) = some (some (.agg #[.int .u8 0, .int .u8 0, .int .u8 0, .int .u8 0, .int .u8 0, .int .u8 0, .int .u8 0, .int .u8 0, .int .u8 0, .int .u8 0, .int .u8 0, .int .u8 0, .int .u8 0, .int .u8 0, .int .u8 0, .int .u8 0]), 16, 16) := by kernel_rfl
theorem size51 : (Try.prog.info? 51).map (·.size) = some 16 := by kernel_rfl
theorem flat16_len (l : List (List Int)) : (l.flatMap enc16).length = l.length * 16 := by
  induction l with
  | nil => rfl
  | cons a r ih => rw [List.flatMap_cons, List.length_append, ih, enc16_len, List.length_cons]; omega
theorem flat16_one (l : List (List Int)) : ∀ u ∈ l.flatMap enc16, u.oneCell' = true := fun u hu => by
  obtain ⟨x, _, hx⟩ := List.mem_flatMap.1 hu
  exact enc16_one x u hx
theorem nilcopy (W : World) (a : Addr) (n k : Nat) : (Builtin.copy_ #[48, 48] 3 #[.slice (some a) n k, .slice none 0 0]).run Try.prog W = .ok (goInt 0) W := run_copy_nil Try.prog W 48 48 3 51 a n k Try.underlying48 (by rw [size51]; rfl)
theorem own_cur {w : World} {B : Nat} {e : TypeId} {k g n cap : Nat} {xs : List Value} (h : w.ownsRow B e k (.slice (some ⟨g, 0, none⟩) n cap) n xs) : ∃ cur, w.heap[g]? = some (.cells cur e (0, 0)) ∧ cur.size = cap * k := by
  rcases h.2 with ⟨h1, _⟩ | ⟨g', cap', cur, h1, _, h2, _, _, h3, _⟩
  · cases h1
  · cases h1
    exact ⟨cur, h2, h3⟩
theorem Addr.add_block' (a : Addr) (k : Nat) : (a.add k).block = a.block := by unfold Addr.add; split <;> rfl
/-- What is sorted behind the copy. -/
theorem sort_tail {w w2 : World} {n : Nat} {xs : List (List Int)} (hn : n = xs.length) (hl : n ≤ 1000) (hg : w2.heap[w.heap.size]? = some (.cells (xs.flatMap enc16).toArray 51 (0, 0))) (hf : Fr (fun j => w.heap.size ≤ j) w w2) :
    Calls Try.prog 29 #[.slice (some ⟨w.heap.size, 0, none⟩) n n, .func (.func 30) #[] #[]] w2 fun e w' => e = .returned (.tuple #[]) ∧ SortPost w xs (.returned (.slice (some ⟨w.heap.size, 0, none⟩) n n)) w' := by
  subst hn
  have hown : w2.ownsRow w.heap.size 51 16 (.slice (some ⟨w.heap.size, 0, none⟩) xs.length xs.length) xs.length (xs.flatMap enc16) :=
    ⟨flat16_len xs, .inr ⟨_, _, _, rfl, Nat.le_refl _, hg, Nat.le_refl _, by unfold maxLen; omega, by simp only [List.size_toArray]; exact flat16_len xs, by rw [← flat16_len xs]; exact List.take_length⟩⟩
  refine (SortG_any hown (by omega)).mono ?_
  rintro e w' ⟨he, ⟨ys, h1, h2, h3⟩, h4⟩
  have hl2 : ys.length = xs.length := h1.length_eq
  refine ⟨he, ys, _, rfl, h1, h2, ?_, (hf.grown h4 (fun k hk _ => by cases hk; exact Nat.le_refl _)).mono (fun j h5 h6 => by omega)⟩
  rw [← hl2]
  rw [hl2] at h3 ⊢
  exact h3
set_option maxHeartbeats 1000000 in
set_option maxRecDepth 100000 in
theorem Sort_any (w : World) (B : Nat) (v : Value) (xs : List (List Int)) (h : w.ownsRow B 51 16 v xs.length (xs.flatMap enc16)) (hl : xs.length ≤ 1000) : Calls Try.prog 20 #[v] w (SortPost w xs) := by
  obtain ⟨i0, hi, hz0, hz1, hz2⟩ := info_parts info51
  have hb2 : i0.bytes * xs.length ≤ 281474976710656 := by rw [hz2]; omega
  have hm3 : xs.length ≤ maxLen := by unfold maxLen; omega
  have hi' := hid hi
  have hz0' := hid hz0
  have hz1' := hid hz1
  have HSZ := hid size51
  clear hi hz0 hz1 hz2
  rcases h.2 with ⟨rfl, h2⟩ | ⟨g, k, cur0, rfl, _⟩
  · have hx : xs = [] := List.eq_nil_of_length_eq_zero h2
    subst hx
    have hq := nilcopy
    clear h h2 hl hm3 hb2
    go_enter Try.func20, Try.ntmps20
    go_wp2_with (at_make; refine wpList_make_full _ rfl _ _ 48 rfl w.heap.size 51 i0 _ 16 Try.underlying48 hi'.out hz0'.out hz1'.out _ _ _ _ 0 rfl rfl rfl rfl (by omega) (by decide) (Nat.le_refl _) ?_; intro w1 hown1 hgrow1; have HO1 := hid hown1; have HG1 := hid hgrow1; clear hown1 hgrow1)
    clear hq
    obtain ⟨cur, hc1, hc2⟩ := own_cur HO1.out
    have hcur : cur = #[] := Array.eq_empty_of_size_eq_zero (by omega)
    subst hcur
    refine (sort_tail (w := w) (xs := []) rfl (by decide) hc1 ((Fr.refl _ w).grown HG1.out (fun _ h _ => by cases h))).mono ?_
    rintro e w2 ⟨rfl, hs⟩
    have HS := hid hs
    clear hs hc1 hc2
    go_wp2
    go_ret
    exact HS.out
  · have H := hid h
    obtain ⟨n, hn⟩ : ∃ n, n = xs.length := ⟨_, rfl⟩
    have HN := hid hn
    rw [← hn] at hb2 hm3 hl ⊢
    have hgw : g < w.heap.size := (h.lt g rfl).2
    have hsrc : ∀ j v, (xs.flatMap enc16)[j]? = some v → w.cell? ((⟨g, 0, none⟩ : Addr).add j) = some v := h.cells (g := g) rfl
    have HS := hid hsrc
    clear hn h hsrc
    go_enter Try.func20, Try.ntmps20
    go_wp2_with (first
      | (at_make; refine wpList_make_full _ rfl _ _ 48 rfl w.heap.size 51 i0 _ 16 Try.underlying48 hi'.out hz0'.out hz1'.out _ _ _ _ n rfl rfl rfl rfl hb2 hm3 (Nat.le_refl _) ?_; intro w1 hown1 hgrow1; obtain ⟨cur, hc1, hc2⟩ := own_cur hown1; have HC1 := hid hc1; have HC2 := hid hc2; have HG1 := hid hgrow1; have HSW := hid (show ∀ j v, (xs.flatMap enc16)[j]? = some v → w1.cell? ((⟨g, 0, none⟩ : Addr).add j) = some v from fun j v hv => (World.cell?_of_block (by rw [Addr.add_block']; exact hgrow1.block g hgw (by simp))).trans (HS.out j v hv)); clear hown1 hgrow1 hc1 hc2)
      | ((with_reducible refine at_op ⟨some 9, _, _, _, _, _⟩ ?_); refine wpList_copyK rfl (.tmp 7) (.tmp 8) 48 48 rfl 51 Try.underlying48 16 HSZ.out w.heap.size 0 n n n ⟨g, 0, none⟩ n k rfl rfl cur 51 HC1.out (xs.flatMap enc16) (Nat.min_self n).symm (by rw [flat16_len, HN.out]) HSW.out (by rw [flat16_len, HC2.out, HN.out, Nat.zero_add]; exact Nat.le_refl _) (flat16_one _) ?_))
    have hdrop : List.drop (List.map (fun a => (enc16 a).length) xs).sum cur.toList = [] := by
      rw [List.drop_eq_nil_iff, ← List.length_flatMap, flat16_len, Array.length_toList, HC2.out, HN.out]
      exact Nat.le_refl _
    rw [hdrop, List.append_nil]
    have hg2 : (w1.setRow w.heap.size (xs.flatMap enc16).toArray).heap[w.heap.size]? = some (.cells (xs.flatMap enc16).toArray 51 (0, 0)) := setRow_heap _ _ _ _ 51 (0, 0) HC1.out
    have hf2 : Fr (fun j => w.heap.size ≤ j) w (w1.setRow w.heap.size (xs.flatMap enc16).toArray) :=
      ((Fr.refl _ w).grown HG1.out (fun _ h _ => by cases h)).trans (fp2 := fun j => w.heap.size ≤ j) ⟨rfl, rfl, rfl, by simp, fun k _ hn => setRow_other w1 _ k _ (by omega)⟩ (fun _ h _ => h)
    refine (sort_tail HN.out hl hg2 hf2).mono ?_
    rintro e w2 ⟨rfl, hs⟩
    have HSS := hid hs
    clear hs hg2 hf2 hdrop
    go_wp2
    go_ret
    exact HSS.out
end Go.Proofs.Ytmmmjkmhlkkdkaa
