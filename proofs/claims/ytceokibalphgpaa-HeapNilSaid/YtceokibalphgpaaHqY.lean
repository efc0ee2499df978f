/- HqW HqX HqY in one -/
import Derived.Test.YtceokibalphgpaaHqU
import Derived.Test.YtceokibalphgpaaHpN
import Derived.Test.YtceokibalphgpaaAeI
import Derived.Test.YtceokibalphgpaaHpU
import Derived.Test.YtceokibalphgpaaHpQ
namespace Go.Proofs.Ytceokibalphgpaa
open Go Go.ChangeShapes Go.WideShapes Go.ChangeAt Go.RowKit Go.Shelf
attribute [local go_sem] Oper.semAt_some

theorem pairF_all : ∀ (L : List Spot) (k : Nat), (pairF k L).map (·.1) = (((L.map e0).zipIdx k).filter (·.1.t)).map fun p => hand p.2 p.1.g
  | [], _ => rfl
  | s :: L, k => by
    have ih := pairF_all L (k + 1)
    rw [List.map_cons, List.zipIdx_cons, List.filter_cons]
    unfold pairF
    have e1 : (e0 s, k).1.t = s.t := rfl
    rw [e1]
    cases s.t with
    | true => simp only [if_true, List.map_cons]; rw [ih]; rfl
    | false => simp only [Bool.false_eq_true, if_false]; exact ih
theorem pairF_allA (AA : Ar) : (pairF 0 AA.L).map (·.1) = allA (er AA) := pairF_all AA.L 0
theorem arenaAll_any (w : World) (pa : Nat) : Calls Try.prog 61 #[.pointer (some ⟨pa, 0, none⟩)] w fun e w' => e = .returned (.func (.func 71) #[] #[.pointer (some ⟨w.heap.size, 0, none⟩)]) ∧ w' = w.alloc (.cells #[.pointer (some ⟨pa, 0, none⟩)] 81) := by
  go_enter Try.func61, Try.ntmps61
  go_wp2
  go_ret
  exact ⟨rfl, rfl⟩
def encPr (x : Int × Int) : Array Value := #[.int .u64 x.1, encE x.2]
theorem arena_stops (n Bn p : Nat) (S : Nat → Prop) (A : Ar) (w : World) (hBn : Boxed w Bn 81 (.pointer (some ⟨p, 0, none⟩))) (hI : InS S w p A) :
    SeqStopsK Fence.wide n Try.prog 71 #[.pointer (some ⟨Bn, 0, none⟩)] encPr KCE (fun ys => ys = pairF 0 A.L) (fun pre => pre <+: pairF 0 A.L) (pairF 0 A.L).length w := fun l J Jx W hW hJ _ hY h0 =>
  iter_any n l Bn p S A J Jx hY W (Boxed.cell ((hW.block Bn hBn.lt).trans hBn)) (hI.fr (fp := fun _ => False) (Fr.of_below hW) (fun _ _ e => e)) (fun s W W' h hb => hJ s W W' none h (grown_of_below hb) (fun r e => by cases e)) h0
theorem HAll_any (w : World) (p : Nat) : Calls Try.prog 45 #[.pointer (some ⟨p, 0, none⟩)] w fun e w' => e = .returned (.func (.func 60) #[] #[.pointer (some ⟨w.heap.size, 0, none⟩)]) ∧ w' = w.alloc (.cells #[.pointer (some ⟨p, 0, none⟩)] 24) := by
  go_enter Try.func45, Try.ntmps45
  go_wp2
  go_ret
  exact ⟨rfl, rfl⟩
theorem roundIn_wide2 {n m : Nat} {P : Program} {l : Nat} {f : FuncId} {tmps : Array Value} {assign body : Code} {w : World} {R : Ending → World → Prop} (h : RoundIn Fence.wide n P l f tmps assign body w R) : RoundIn Fence.wide m P l f tmps assign body w R :=
  ⟨h.1, fun c cs _ => h.2 c cs (room_wide _)⟩
/-- Between two rounds. -/
structure AlI (lp Y : Nat) (J : List Int → World → Prop) (pre : List (Int × Int)) (W : World) : Prop where
  j : J (pre.map (·.1)) W
  y : W.heap[Y]? = some (.cells #[.func (.yield lp) #[] #[]] 131 (0, 0))
theorem round_inR {n : Nat} {P : Program} {l : Nat} {f : FuncId} {tmps : Array Value} {assign body : Code} {w : World} {R : Ending → World → Prop} (lo : Nat) (h : RoundIn Fence.wide n P l f tmps assign body w R) : RoundIn (Fence.wide.inRound lo) n P l f tmps assign body w R := h
set_option maxRecDepth 100000 in
set_option maxHeartbeats 4000000 in
theorem all_tells (n Bp p pa : Nat) (hn : 3 ≤ n) (Sa : Nat → Prop) (AA : Ar) (S : Nat → Prop) (w : World) (hb : Boxed w Bp 24 (.pointer (some ⟨p, 0, none⟩))) (hp : w.cell? ⟨p, 0, none⟩ = some (.pointer (some ⟨pa, 0, none⟩))) (hI : InS Sa w pa AA) :
    Tells Fence.wide n Try.prog 60 #[.pointer (some ⟨Bp, 0, none⟩)] encU (fun _ _ => True) (KT S KTy) (fun ys => ys = allA (er AA)) (fun pre => pre <+: allA (er AA)) w := fun lp J Jx W hW hAJ hAJx hY h0 => by
  have h1 : 1 ≤ n := by omega
  obtain ⟨w0, hw0⟩ : ∃ w0, w0 = W.alloc (.cells #[.func (.yield lp) #[] #[]] 131) := ⟨_, rfl⟩
  have hb0 : Below W.heap.size W w0 := by rw [hw0]; exact (Below.refl _ _).alloc (Nat.le_refl _) _
  have hbw : Below w.heap.size w w0 := hW.trans (hb0.mono hW.size)
  have d0 : w0.cell? ⟨Bp, 0, none⟩ = some (.pointer (some ⟨p, 0, none⟩)) := Boxed.cell ((hbw.block Bp hb.lt).trans hb)
  have d1 : w0.cell? ⟨p, 0, none⟩ = some (.pointer (some ⟨pa, 0, none⟩)) := by rw [World.cell?_of_block (hbw.block p (World.block_lt_of_cell? w _ hp))]; exact hp
  obtain ⟨w1, hw1⟩ : ∃ w1, w1 = w0.alloc (.cells #[.pointer (some ⟨pa, 0, none⟩)] 81) := ⟨_, rfl⟩
  have hb1 : Below w0.heap.size w0 w1 := by rw [hw1]; exact (Below.refl _ _).alloc (Nat.le_refl _) _
  have hbn : Boxed w1 w0.heap.size 81 (.pointer (some ⟨pa, 0, none⟩)) := by rw [hw1]; exact Boxed.new _ _ _
  have hst := arena_stops (n - 1) w0.heap.size pa Sa AA w1 hbn (hI.fr (fp := fun _ => False) (Fr.of_below (hbw.trans (hb1.mono hbw.size))) (fun _ _ e => e))
  have hsz0 : w0.heap.size = W.heap.size + 1 := by rw [hw0]; simp
  have hy0 : w0.heap[W.heap.size]? = some (.cells #[.func (.yield lp) #[] #[]] 131 (0, 0)) := by rw [hw0]; exact heap_alloc_new _ _
  have hI0 : AlI lp W.heap.size J [] w1 := ⟨hAJ _ _ _ _ h0 (grown_of_below (hb0.trans (hb1.mono hb0.size))) (fun r e => by cases e), (hb1.block _ (by omega)).trans hy0⟩
  have hz1 : w1.heap.size = W.heap.size + 2 := by rw [hw1]; simp; omega
  have HST := hid hst
  have HI0 := hid hI0
  have HY := hid hY
  have HAJ := hid hAJ
  have HAJX := hid hAJx
  have HW0 := hid hw0
  have HW1 := hid hw1
  have HZ1 := hid hz1
  have HZ0 := hid hsz0
  clear hst hI0 hY hAJ hAJx hw0 hw1 hb0 hb1 hbn hy0 hbw hW hb hp hI hz1 hsz0 h0
  refine callsIn_of_wp_marks Try.func60 rfl trivial ?_ rfl
  simp only [Try.ntmps60, List.size_toArray, List.length_cons, List.length_nil, Nat.reduceAdd, Nat.reduceSub, Array.replicate_succ, Array.replicate_zero, List.push_toArray, List.append_toArray, List.nil_append, List.cons_append]
  gi_upto_region 1 with (fail)
  rw [← HW0.out]
  gi_wp2_with fail
  first
    | refine (callsIn_wide.2 (arenaAll_any _ _)).mono ?_
    | refine ⟨trivial, (callsIn_wide.2 (arenaAll_any _ _)).mono ?_⟩
    | refine ⟨trivial, (fun h => by cases h), (callsIn_wide.2 (arenaAll_any _ _)).mono ?_⟩
  rintro e w' ⟨rfl, hw'⟩
  obtain rfl : w' = w1 := hw'.trans HW1.out.symm
  clear hw'
  gi_wp2
  refine wpIn_rangeFunc_ownH rfl h1 (gf := 71) (lb := #[.pointer (some ⟨w0.heap.size, 0, none⟩)]) rfl trivial (enters_of Try.func71 (by kernel_rfl) rfl)
    HST.out (fun h k => h.t k) (fun W l o o' _ h2 h3 _ => KCE.b W l o o' h2 h3) (Below.refl _ _) (fun _ => rfl)
    (AlI lp W.heap.size J) (fun c (pre : List (Int × Int)) Wc => c = .ret ∧ Jx (pre.map (·.1)) Wc)
    (fun pre X Y row h hg hr => ⟨HAJ.out _ _ _ _ h.j hg (fun r e => ⟨by have := (hr r e).1; have := HZ1.out; omega, (hr r e).2⟩), heap_kept h.y hg (not_cells h.y (fun r e => (hr r e).2))⟩)
    (fun _ (pre : List (Int × Int)) X Y row ⟨hc, h⟩ hg hr => ⟨hc, HAJX.out (pre.map (·.1)) X Y row h hg (fun r e => ⟨by have := (hr r e).1; have := HZ1.out; omega, (hr r e).2⟩)⟩) HI0.out
    (fun x a' Wc => a' = { tmps := #[.func (.yield lp) #[] #[], .pointer (some ⟨Bp, 0, none⟩), .pointer (some ⟨W.heap.size, 0, none⟩), .int .u64 x.1, .pointer (some ⟨p, 0, none⟩), .bool false, .pointer (some ⟨p, 0, none⟩), .pointer (some ⟨p, 0, none⟩), .pointer (some ⟨p, 0, none⟩), .pointer (some ⟨pa, 0, none⟩), .func (.func 71) #[] #[.pointer (some ⟨w0.heap.size, 0, none⟩)], .int .u64 x.1, encE x.2, undef, undef, undef, undef], defers := [] })
    (fun x a' _ X Y row hs hg hr => hs)
    ?assign ?body ?done ?stop
  case assign =>
    rintro lo pre x Wc K hci hK
    simp only [encPr]
    have HCI := hid hci
    have HKK := hid hK
    clear hci hK
    gi_wp2
    exact HKK.out _ _ (KeepsFrom.refl _ _) (fun _ _ h => h) HCI.out rfl
  case body =>
    rintro lo pre x a' Wc hl ⟨r, hr⟩ H rfl hlt
    have y0 : Wc.cell? ⟨W.heap.size, 0, none⟩ = some (.func (.yield lp) #[] #[]) := by rw [cell_of_row Wc W.heap.size 0 _ _ _ H.y]; rfl
    obtain ⟨fn, tmps, assign, body, hy, hRd⟩ := HY.out (pre.map (·.1)) x.1 Wc H.j trivial
    simp only [encU] at hy
    have HRD := hid (roundIn_wide2 (m := n - 1 - 1 - 1) hRd)
    have HYB := hid H.y
    have hmap : (pre ++ [x]).map (·.1) = pre.map (·.1) ++ [x.1] := by simp
    have HMAP := hid hmap
    clear H hl hr hlt hRd hmap
    gi_wp2
    refine ⟨(fun h => by cases h), (round_inR lo HRD.out).mono ?_⟩
    rintro e W6 (⟨rfl, hJ6, hk6, hf6⟩ | ⟨rfl, hJx6, hf6⟩)
    · have HJ6 := hid hJ6
      have HK6 := hid hk6
      have HF6 := hid hf6
      clear hJ6 hk6 hf6
      gi_wp2
      refine ⟨kf_up HF6.out (by have := HZ1.out; omega), (fun k cs h => HK6.out k cs _ _ (.inr (.inl rfl)) h), ⟨?_, HK6.out _ _ _ _ (.inr (.inr rfl)) HYB.out⟩⟩
      rw [HMAP.out]; exact HJ6.out
    · have HJ6 := hid hJx6
      have HF6 := hid hf6
      clear hJx6 hf6
      gi_wp2
      refine ⟨kf_up HF6.out (by have := HZ1.out; omega), rfl, ?_⟩
      rw [HMAP.out]; exact HJ6.out
  case done =>
    rintro D ys Wc hD rfl H hK
    have HH := hid H
    clear H
    gi_wp2
    refine ⟨by simp, .inl ⟨_, _, rfl, run_takeDeferred hK, ?_⟩⟩
    refine ⟨_, results_none rfl _ _ _, ⟨_, rfl⟩, .inl ⟨_, pairF_allA AA, HAJ.out.putObj _ HH.out.j (by have := HZ1.out; omega) hK rfl⟩⟩
  case stop =>
    rintro D c pre Wc hD hp ⟨rfl, h2⟩ hK
    have HH := hid h2
    have HP := hid hp
    clear h2 hp
    gi_wp2
    refine ⟨by simp, .inl ⟨_, _, rfl, run_takeDeferred hK, ?_⟩⟩
    refine ⟨_, results_none rfl _ _ _, ⟨_, rfl⟩, .inr ⟨_, ?_, HAJX.out.putObj _ HH.out (by have := HZ1.out; omega) hK rfl⟩⟩
    rw [← pairF_allA]
    exact HP.out.map _
end Go.Proofs.Ytceokibalphgpaa

namespace Go.Proofs.Ytceokibalphgpaa
open Go Go.ChangeShapes Go.WideShapes Go.ChangeAt Go.RowKit Go.Shelf
attribute [local go_sem] Oper.semAt_some

theorem rowsL_nil (W : World) : (binOp .eql 77 (.slice none 0 0) (.slice none 0 0)).run Try.prog W = .ok (.bool true) W := by kernel_rfl
theorem rowsL_not (a : Addr) (n k : Nat) (W : World) : (binOp .eql 77 (.slice (some a) n k) (.slice none 0 0)).run Try.prog W = .ok (.bool false) W := by kernel_rfl
def ClonePostL (w : World) (n : Nat) (xs : List Value) (e : Ending) (w' : World) : Prop := ∃ v, e = .returned v ∧ w'.ownsRow w.heap.size 67 2 v n xs ∧ Below w.heap.size w w'
theorem CloneL_any (w : World) (B : Nat) (cv : Value) (n : Nat) (xs : List Value) (h : w.ownsRow B 67 2 cv n xs) (hn : n ≤ 65536) (h1 : ∀ u ∈ xs, u.oneCell' = true) :
    Calls Try.prog 69 #[cv] w (ClonePostL w n xs) := by
  rcases h.2 with ⟨rfl, rfl⟩ | ⟨g, cap, cur, rfl, hb, hg, hnc, hcm, hcs, htake⟩
  · have hx : xs = [] := List.eq_nil_of_length_eq_zero (by simpa using h.1)
    subst hx
    clear h
    have hq := rowsL_nil
    go_enter Try.func69, Try.ntmps69
    go_wp2
    go_ret
    exact ⟨_, rfl, World.ownsRow_nil _ _ _ _, Below.refl _ _⟩
  · have hcell := h.cells (g := g) rfl
    have hl := h.1
    obtain ⟨i0, hi, hz0, hz1, hz2⟩ := info_parts infoLkB
    have hi' := hid hi
    have hz0' := hid hz0
    have hz1' := hid hz1
    have hz2' := hid hz2
    have HC := hid hcell
    have HL := hid hl
    have H1 := hid h1
    have hgl : g < w.heap.size := (Array.getElem?_eq_some_iff.1 hg).1
    clear hi hz0 hz1 hz2 hcell hl h1 h hg hcs htake hb hcm hnc
    go_enter Try.func69, Try.ntmps69
    have hq := rowsL_not
    have hnews : ∀ o : Obj, ∀ (j : Nat) (u : Value), xs[j]? = some u → (w.alloc o).cell? ((⟨g, 0, none⟩ : Addr).add j) = some u := fun o j u hu => by
      rw [World.cell?_of_block (Below.heap_alloc w o _ (by rw [addr_block]; exact hgl))]
      exact HC.out j u hu
    have HNW := hid hnews
    clear hnews
    go_wp2_with (at_builtin; refine wpList_append_own _ (o := ⟨some 7, _, _, _, _, _⟩) rfl (.tmp 5) (.tmp 6) 77 rfl w.heap.size 67 i0 (.agg #[.int .i64 0, .int .u64 0]) 2 16 Try.underlying77 hi'.out hz0'.out hz1'.out hz2'.out rfl (by decide) (.slice (some ⟨w.heap.size, 0, none⟩) 0 0) 0 [] rfl (World.ownsRow_made w #[] 0 (Nat.le_refl _) (Nat.zero_le _) rfl) ⟨g, 0, none⟩ n cap xs rfl HL.out (HNW.out _) H1.out (by unfold maxLen; omega) (by omega) (by simp) ?_; intro v5 w5 hown5 hgrow5 hnil5)
    have HO := hid hown5
    have HG := hid hgrow5
    clear hown5 hgrow5 hnil5
    go_ret
    refine ⟨_, rfl, ?_, ((Below.refl _ _).alloc (Nat.le_refl _) _).grown HG.out (by simp) (fun k hk => by simp [Value.ownBlock] at hk; omega)⟩
    have := HO.out
    rw [Nat.zero_add, List.nil_append] at this
    exact this
theorem HLinks_any (w : World) (p : Nat) (hd : Int) : Calls Try.prog 57 #[.pointer (some ⟨p, 0, none⟩), .int .u64 hd] w fun e w' => e = .returned (.func (.func 68) #[] #[.pointer (some ⟨w.heap.size, 0, none⟩), .pointer (some ⟨w.heap.size + 1, 0, none⟩)]) ∧ w' = (w.alloc (.cells #[.pointer (some ⟨p, 0, none⟩)] 24)).alloc (.cells #[.int .u64 hd] 34) := by
  go_enter Try.func57, Try.ntmps57
  go_wp2
  go_ret
  exact ⟨rfl, rfl⟩
theorem zip_take {α : Type} (l : List α) (q : Nat) (x : α) (h : l[q]? = some x) : l.zipIdx.take (q + 1) = l.zipIdx.take q ++ [(x, q)] := by
  rw [List.take_add_one, List.getElem?_zipIdx, h]
  simp
set_option maxRecDepth 100000 in
set_option maxHeartbeats 4000000 in
theorem links_tells (n b1 b2 p pa : Nat) (hd : Int) (hh : Hn hd) {Sa : Nat → Prop} {AA : Ar} {F : Nat → Lab} {B : Int → Nat} {top : Int} {L : HL} (w : World) (hb1 : Boxed w b1 24 (.pointer (some ⟨p, 0, none⟩))) (hb2 : Boxed w b2 34 (.int .u64 hd)) (h : HpW w p pa Sa AA F B top L) (hi : HIn top L) :
    TellsX Fence.wide n Try.prog 68 #[.pointer (some ⟨b1, 0, none⟩), .pointer (some ⟨b2, 0, none⟩)] encL OkT KpT (fun _ _ => True) (linksOf L hd).zipIdx w := by
  intro lp J Jx W hW hJ hJx _ _ hY hOk
  show CallsIn Fence.wide n Try.prog 68 #[.func (.yield lp) #[] #[], .pointer (some ⟨b1, 0, none⟩), .pointer (some ⟨b2, 0, none⟩)] W (PartPost J Jx (linksOf L hd).zipIdx)
  have d1 : W.cell? ⟨b1, 0, none⟩ = some (.pointer (some ⟨p, 0, none⟩)) := Boxed.cell ((hW.block b1 hb1.lt).trans hb1)
  have d2 : W.cell? ⟨b2, 0, none⟩ = some (.int .u64 hd) := Boxed.cell ((hW.block b2 hb2.lt).trans hb2)
  have hp : HpW W p pa Sa AA F B top L := h.fr (fp := fun _ => False) (Fr.of_below hW) (fun e => e) (fun _ _ e => e) (fun _ _ _ _ _ e => e) (fun _ _ => rfl)
  have HY := hid hY
  have HJJ := hid hJ
  have HJX := hid hJx
  have HOK := hid hOk
  cases hf : fnd L hd with
  | none =>
    have HF := hid (find_none hp (fun o ho => fnd_none.1 hf o ho) hh)
    have hl : linksOf L hd = [] := by unfold linksOf; rw [hf]
    have HL := hid hl
    clear hY hJ hJx hOk h hi hp hb1 hb2 hW hf hl hh
    refine callsIn_of_wp Try.func68 rfl trivial ?_ rfl
    simp only [Try.ntmps68, List.size_toArray, List.length_cons, List.length_nil, Nat.reduceAdd, Nat.reduceSub, Array.replicate_succ, Array.replicate_zero, List.push_toArray, List.append_toArray, List.nil_append, List.cons_append]
    gi_wp2
    refine ⟨trivial, (fun h => by cases h), (callsIn_wide.2 HF.out).mono ?_⟩
    rintro e w' ⟨rfl, rfl⟩
    gi_wp2
    refine bodyPost_ret (results_none rfl _ _ _) rfl ?_
    exact ⟨⟨_, rfl⟩, .inl ⟨none, by rw [HL.out]; exact HOK.out none _ ⟨Below.refl _ _, fun k hk => by cases hk⟩⟩⟩
  | some o =>
    obtain ⟨ho, he⟩ := fnd_some hf
    have hF := find_some hp ho
    rw [he] at hF
    have HF := hid hF
    obtain ⟨sv, iv, c, hob⟩ := hp.ob o ho
    rw [he] at hob
    have c0 := hob.c0
    have h8 := (hi.lnk o ho).1
    have HCL := hid (CloneL_any W 0 sv o.links.length (lkv o.links) hob.hs (by omega) (lkv_one _))
    have hl : linksOf L hd = o.links := by unfold linksOf; rw [hf]
    rw [hl] at HY ⊢
    obtain ⟨l, hll⟩ : ∃ l, l = o.links := ⟨_, rfl⟩
    rw [← hll] at HY HCL ⊢
    obtain ⟨N, hN⟩ : ∃ N, N = l.length := ⟨_, rfl⟩
    rw [← hll, ← hN] at h8
    rw [← hN] at HCL
    have HN := hid hN
    clear hY hJ hJx hOk h hi hp hb1 hb2 hW hf hl hh hF hob ho he hll hN
    refine callsIn_of_wp Try.func68 rfl trivial ?_ rfl
    simp only [Try.ntmps68, List.size_toArray, List.length_cons, List.length_nil, Nat.reduceAdd, Nat.reduceSub, Array.replicate_succ, Array.replicate_zero, List.push_toArray, List.append_toArray, List.nil_append, List.cons_append]
    gi_wp2
    refine ⟨trivial, (fun h => by cases h), (callsIn_wide.2 HF.out).mono ?_⟩
    rintro e w' ⟨rfl, rfl⟩
    gi_wp2
    refine ⟨trivial, (fun h => by cases h), (callsIn_wide.2 HCL.out).mono ?_⟩
    rintro e W1 ⟨v1, rfl, hrow, hbl⟩
    obtain ⟨ra, rc, rfl⟩ := own_form hrow
    obtain ⟨t, ht⟩ : ∃ t : Option Nat, t = (Value.slice ra N rc).ownBlock := ⟨_, rfl⟩
    have hOk1 : OkT t W W1 := ⟨hbl, fun k hk => by rw [ht] at hk; exact hrow.lt k hk⟩
    have J0 := hid (HOK.out t W1 hOk1)
    have HT := hid ht
    have HROW := hid hrow
    clear hrow hbl ht hOk1 HCL HF c0 d1 d2
    gi_wp2
    gi_loopw [18] (fun i wr => ∃ q : Nat, q ≤ N ∧ i = .int .i64 q ∧ RowKit.Hid (J t (l.zipIdx.take q) wr) ∧ RowKit.Hid (wr.ownsRow W.heap.size 67 2 (.slice ra N rc) N (lkv l))) (fun i _ => N - (intOf i).toNat)
    case atStart => exact ⟨0, Nat.zero_le _, rfl, hid (by simpa using J0.out), HROW⟩
    case round =>
      obtain ⟨q, hq, rfl, HJq, HRq⟩ := hrel
      by_cases hql : q < N
      · have hqL : q < l.length := by rw [← HN.out]; exact hql
        have hs : l[q]? = some l[q] := List.getElem?_eq_getElem hqL
        generalize l[q] = x at hs
        obtain ⟨g, k', hvf, _⟩ := HRq.out.form (by omega)
        simp only [Value.slice.injEq] at hvf
        obtain ⟨rfl, -, rfl⟩ := hvf
        obtain ⟨e1, e2⟩ := lkv_at l q x hs
        have m0 : wr.cell? ⟨g, q * 2, none⟩ = some (.int .i64 x.kind) := by rw [HRq.out.cellAt _ (by omega)]; exact e1
        have m1 : wr.cell? ⟨g, q * 2 + 1, none⟩ = some (.int .u64 x.h) := by rw [HRq.out.cellAt _ (by omega)]; exact e2
        have hz := zip_take l q x hs
        obtain ⟨w3, hw3⟩ : ∃ w3, w3 = wr.alloc (.cells #[.int .i64 x.kind, .int .u64 x.h] 67) := ⟨_, rfl⟩
        have hb3 : Below wr.heap.size wr w3 := by rw [hw3]; exact (Below.refl _ _).alloc (Nat.le_refl _) _
        have J3 := HJJ.out t _ _ _ _ HJq.out (grown_of_below hb3) (fun r e => by cases e)
        have hrow3 : w3.ownsRow W.heap.size 67 2 (.slice (some ⟨g, 0, none⟩) N rc) N (lkv l) := by rw [hw3]; exact HRq.out.alloc _
        have hpx : l.zipIdx.take q ++ [(x, q)] <+: l.zipIdx := by rw [← hz]; exact List.take_prefix _ _
        obtain ⟨fn, tmps, assign, body, hy, hRd⟩ := HY.out t _ (x, q) w3 J3 hpx
        simp only [encL] at hy
        have HRD := hid hRd
        have HZ := hid hz
        have HPX := hid hpx
        have HR3 := hid hrow3
        have HW3 := hid hw3
        clear hRd hz hpx hrow3 hb3 J3 hs hqL e1 e2
        gi_upto_region 5 with (fail)
        rw [← HW3.out]
        have cb0 : w3.cell? ⟨wr.heap.size, 0, none⟩ = some (.int .i64 x.kind) := by rw [HW3.out, cell_of_row _ _ 0 _ _ _ (heap_alloc_new _ _)]; rfl
        have cb1 : w3.cell? ⟨wr.heap.size, 1, none⟩ = some (.int .u64 x.h) := by rw [HW3.out, cell_of_row _ _ 1 _ _ _ (heap_alloc_new _ _)]; rfl
        clear m0 m1 hw3
        gi_wp2
        refine ⟨(fun h => by cases h), HRD.out.mono ?_⟩
        rintro e W4 (⟨rfl, hJ4, hk4, _⟩ | ⟨rfl, hJx4, _⟩)
        · have J4 := hid hJ4
          have hrow4 : W4.ownsRow W.heap.size 67 2 (.slice (some ⟨g, 0, none⟩) N rc) N (lkv l) := by
            refine ⟨HR3.out.1, ?_⟩
            rcases HR3.out.2 with ⟨e, _⟩ | ⟨g', cap, cur, e, hb, hg, rest⟩
            · cases e
            · cases e
              exact .inr ⟨g, rc, cur, rfl, hb, hk4 _ _ _ _ (by rw [HT.out]; rfl) hg, rest⟩
          have R4 := hid hrow4
          clear hJ4 hk4 hrow4 cb0 cb1
          gi_wp2
          go_roundw
          case rel => exact ⟨q + 1, by omega, by go_num, by rw [HZ.out]; exact J4, R4⟩
          case measure => simp [intOf]; omega
        · have J4 := hid hJx4
          clear hJx4 cb0 cb1
          gi_wp2
          refine bodyPost_ret (results_none rfl _ _ _) rfl ?_
          exact ⟨⟨_, rfl⟩, .inr ⟨_, HPX.out, J4.out⟩⟩
      · obtain rfl : q = N := by omega
        have hall : l.zipIdx.take q = l.zipIdx := List.take_of_length_le (by rw [List.length_zipIdx, ← HN.out]; exact Nat.le_refl _)
        have HA := hid hall
        clear hall
        gi_wp2
        go_end0
        exact ⟨⟨_, rfl⟩, .inl ⟨t, by have := HJq.out; rw [HA.out] at this; exact this⟩⟩
end Go.Proofs.Ytceokibalphgpaa

namespace Go.Proofs.Ytceokibalphgpaa
open Go Go.ChangeShapes Go.WideShapes Go.ChangeAt Go.RowKit

theorem RpH.lt {S : Nat → Prop} {w : World} {v : Value} {s : Hs} (h : RpH S w v s) : ∀ k, S k → k < w.heap.size := by
  obtain ⟨_, _, _, _, _, _, _, _, _, _, _, h5⟩ := h
  exact h5
theorem HUp_any (S : Nat → Prop) (w : World) (v : Value) (s : Hs) (hd : Int) (h : RpH S w v s) (h0 : Hn hd) : Calls Try.prog 24 #[v, .int .u64 hd] w fun e w' => Fr S w w' ∧
    ∃ s' n er, e = .returned (.tuple #[.int .u32 n, .int .i64 er]) ∧ UpR s hd s' n er ∧ RpH (exS S w w') w' v s' := by
  obtain ⟨p, pa, Sa, AA, F, B, rfl, h1, h2, h3, h4, h5⟩ := h
  have hR : RpH S w (.pointer (some ⟨p, 0, none⟩)) s := ⟨p, pa, Sa, AA, F, B, rfl, h1, h2, h3, h4, h5⟩
  cases hw : whl s.L hd with
  | none =>
    refine (Up_none h1 ((whl_none h3.inv).1 hw) h0).mono ?_
    rintro e w' ⟨rfl, rfl⟩
    exact ⟨Fr.refl _ _, s, 0, 2, rfl, .stale hw, hR.ex h5 (Nat.le_refl _)⟩
  | some x =>
    have hxb := (h1.bd (whl_some h3.inv hw).1).1
    by_cases ht : x.count = s.top
    · refine (Up_top h1 h3.inv hw ht).mono ?_
      rintro e w' ⟨rfl, hf⟩
      exact ⟨hf.mono (fun _ e _ => e.elim), s, 0, 4, rfl, .top x hw ht, (hR.below (hf.below (Nat.le_refl _) (fun _ e => e.elim))).ex h5 hf.size⟩
    · refine (Up_ok h1 h3.inv h3.t2 hw ht).mono ?_
      rintro e w' ⟨rfl, hp, hf⟩
      have hu : UpR s hd _ (x.count + 1) 0 := .ok x hw ht
      refine ⟨hf.mono (fun k e hl => h4 k hl (by rw [e]; intro e2; have := congrArg Prod.fst e2; simp [outL] at this; omega)), _, _, 0, rfl, hu, p, pa, Sa, AA, F, B, rfl, hp, h2, hu.hsi h3, exs_lab h4 (fun _ _ => rfl), exs_lt h5 hf.size⟩
theorem HCount_any (S : Nat → Prop) (w : World) (v : Value) (s : Hs) (hd : Int) (h : RpH S w v s) (h0 : Hn hd) : Calls Try.prog 26 #[v, .int .u64 hd] w fun e w' => Below w.heap.size w w' ∧
    e = .returned (.int .u32 (match whl s.L hd with | some o => o.count | none => 0)) := by
  obtain ⟨p, pa, Sa, AA, F, B, rfl, h1, h2, h3, h4, h5⟩ := h
  cases hw : whl s.L hd with
  | none =>
    refine (Count_none h1 ((whl_none h3.inv).1 hw) h0).mono ?_
    rintro e w' ⟨rfl, rfl⟩
    exact ⟨Below.refl _ _, rfl⟩
  | some x =>
    refine (Count_some h1 h3.inv hw).mono ?_
    rintro e w' ⟨rfl, rfl⟩
    exact ⟨Below.refl _ _, rfl⟩
theorem heapB (w0 : World) : HeapB w0 RpH where
  ok := fun h => by obtain ⟨_, _, _, _, _, _, _, _, _, h3, _, _⟩ := h; exact h3.ok
  lt := fun h => h.lt
  keep := fun h hb hs => h.keep hb hs
  ptr := fun h => by obtain ⟨p, _, _, _, _, _, e, _⟩ := h; exact ⟨p, e⟩
  new := fun m t w _ hm ht => HNew_any m t w hm ht
  make := fun S w p s slots outer _ h _ ho => HMake_any S w p s slots outer h ho
  up := fun S w p s h _ hR h0 => HUp_any S w p s h hR h0
  dn := fun S w p s h _ hR h0 => HDown_any S w p s h hR h0
  pu := fun S w p s h slot x _ hR h0 _ hk hx => HPut_any S w p s h slot x hR h0 hk hx
  cn := fun S w p s h _ hR h0 => HCount_any S w p s h hR h0
theorem sqC (w0 : World) : SqC w0 RpH := fun S w v s _ h => by
  obtain ⟨p, pa, Sa, AA, F, B, rfl, h1, h2, h3, h4, h5⟩ := h
  refine (HAll_any w p).mono ?_
  rintro e w' ⟨rfl, hw'⟩
  have hb : Below w.heap.size w w' := by rw [hw']; exact (Below.refl _ _).alloc (Nat.le_refl _) _
  refine ⟨hb, _, _, rfl, trivial, enters_of Try.func60 (by kernel_rfl) rfl, fun n hn => ?_⟩
  rw [h2]
  exact all_tells n w.heap.size p pa hn Sa AA _ w' (by rw [hw']; exact Boxed.new _ _ _) (by rw [World.cell?_of_block (hb.block p h1.lt)]; exact h1.c0) (h1.ar.fr (fp := fun _ => False) (Fr.of_below hb) (fun _ _ e => e))
theorem slC (w0 : World) : SlC w0 RpH := fun S w v s hd _ h hh => by
  obtain ⟨p, pa, Sa, AA, F, B, rfl, h1, h2, h3, h4, h5⟩ := h
  refine (HLinks_any w p hd).mono ?_
  rintro e w' ⟨rfl, hw'⟩
  have hb : Below w.heap.size w w' := by rw [hw']; exact ((Below.refl _ _).alloc (Nat.le_refl _) _).alloc (by simp) _
  refine ⟨hb, _, _, rfl, trivial, enters_of Try.func68 (by kernel_rfl) rfl, fun n _ => ?_⟩
  refine links_tells n _ _ p pa hd hh w' ?_ ?_ (h1.fr (fp := fun _ => False) (Fr.of_below hb) (fun e => e) (fun _ _ e => e) (fun _ _ _ _ _ e => e) (fun _ _ => rfl)) h3.inv
  · rw [hw']; exact (Boxed.new _ _ _).alloc _
  · rw [hw']
    have := Boxed.new (w.alloc (.cells #[.pointer (some ⟨p, 0, none⟩)] 24)) 34 (.int .u64 hd)
    simpa using this
theorem heapC (w0 : World) : HeapC w0 RpH := HeapC.by_calls (heapB w0) (sqC w0)
theorem lnC (w0 : World) : LnC w0 RpH := LnC.by_calls (heapB w0) (slC w0)
end Go.Proofs.Ytceokibalphgpaa
