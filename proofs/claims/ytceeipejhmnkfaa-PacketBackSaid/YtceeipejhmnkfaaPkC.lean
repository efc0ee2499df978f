/- PkB PkC in one -/
import Derived.Test.YtceeipejhmnkfaaPkF
import Derived.Test.YtceeipejhmnkfaaPkN
import Derived.Test.YtceeipejhmnkfaaObWd
namespace Go.Proofs.Ytceeipejhmnkfaa
open Go Go.ChangeShapes Go.WideShapes Go.ChangeAt Go.RowKit

def hd8 (p : Pk) : List Int := [p.ki, p.fr, p.to, 0, 0, 0, 0, 0]
def one8 (x : Int) : List Int := [x, 0, 0, 0, 0, 0, 0, 0]
theorem lay_at {xs : List Int} {n : Int} {l g : Nat} (h : xs.length = l) (hg : gap l 8 = g) : lay xs n 8 = xs ++ List.replicate g 0 ++ byt n 8 := by
  unfold lay; rw [h, hg]
theorem hdP_eq (p : Pk) : hdP p = hd8 p ++ byt p.sq 8 := by rw [hdP, lay_at (l := 3) (g := 5) rfl rfl]; rfl
theorem form_1 {p : Pk} (h16 : p.ip.length = 16) (hk : p.ki = 1) : formP p = hd8 p ++ (byt p.sq 8 ++ (byt p.ca 8 ++ (p.ip ++ (one8 p.me ++ (byt (un p.n) 8 ++ (byt p.rs.length 8 ++ refsP p)))))) := by
  have l1 : (hdP p ++ byt p.ca 8 ++ p.ip ++ [p.me]).length = 41 := by simp [hdP_len, byt_len, h16]
  have l2 : (hdP p ++ byt p.ca 8 ++ p.ip ++ [p.me] ++ List.replicate 7 0 ++ byt (un p.n) 8).length = 56 := by simp [hdP_len, byt_len, h16]
  rw [formP, if_pos hk, lay_at (xs := hdP p) (l := 16) (g := 0) (hdP_len p) rfl]
  rw [show hdP p ++ List.replicate 0 0 ++ byt p.ca 8 = hdP p ++ byt p.ca 8 by simp, lay_at (g := 7) l1 rfl, lay_at (g := 0) l2 rfl, hdP_eq]
  simp [one8, List.replicate]
theorem form_2 {p : Pk} (hk : p.ki = 2) : formP p = hd8 p ++ (byt p.sq 8 ++ (byt p.ca 8 ++ (one8 p.co ++ byt (un p.n) 8))) := by
  have l1 : (hdP p ++ byt p.ca 8 ++ [p.co]).length = 25 := by simp [hdP_len, byt_len]
  rw [formP, if_neg (by omega), if_pos hk, lay_at (xs := hdP p) (l := 16) (g := 0) (hdP_len p) rfl]
  rw [show hdP p ++ List.replicate 0 0 ++ byt p.ca 8 = hdP p ++ byt p.ca 8 by simp, lay_at (g := 7) l1 rfl, hdP_eq]
  simp [one8, List.replicate]
theorem form_34 {p : Pk} (h16 : p.ip.length = 16) (hk : p.ki = 3 ∨ p.ki = 4) : formP p = hd8 p ++ (byt p.sq 8 ++ (p.ip ++ byt (un p.n) 8)) := by
  have l1 : (hdP p ++ p.ip).length = 32 := by simp [hdP_len, h16]
  rw [formP, if_neg (by omega), if_neg (by omega), if_pos hk, lay_at (g := 0) l1 rfl, hdP_eq]
  simp
theorem form_5 {p : Pk} (hk : p.ki = 5) : formP p = hd8 p ++ byt p.sq 8 := by
  rw [formP, if_neg (by omega), if_neg (by omega), if_neg (by omega), hdP_eq]
/-- What stands at the places, whatever it is. -/
def sg (z : Int) : Int := wrap64 z
def rawP (b : List Int) : Pk where
  ki := b.getD 0 0
  fr := b.getD 1 0
  to := b.getD 2 0
  sq := numP b 8
  ca := if b.getD 0 0 = 1 ∨ b.getD 0 0 = 2 then numP b 16 else 0
  ip := if b.getD 0 0 = 1 then guidP b 24 else if b.getD 0 0 = 3 ∨ b.getD 0 0 = 4 then guidP b 16 else g0
  me := if b.getD 0 0 = 1 then b.getD 40 0 else 0
  n := if b.getD 0 0 = 1 then sg (numP b 48) else if b.getD 0 0 = 2 ∨ b.getD 0 0 = 3 ∨ b.getD 0 0 = 4 then sg (numP b 32) else 0
  co := if b.getD 0 0 = 2 then b.getD 24 0 else 0
  rs := if b.getD 0 0 = 1 ∧ numP b 56 = 1 then [(decO (b.drop 64)).1] else []
/-- Too short for its kind? -/
def shortP (b : List Int) : Prop := b.length < 16 ∨ (b.getD 0 0 = 1 ∧ b.length < 64) ∨ (b.getD 0 0 = 2 ∧ b.length < 40)
instance (b : List Int) : Decidable (shortP b) := by unfold shortP; exact inferInstance
/-- The right packet whose form it is. -/
def decP (b : List Int) : Pk × Bool := if shortP b then (pkZ, false) else if rightP (rawP b) = true ∧ formP (rawP b) = b then (rawP b, true) else (pkZ, false)
theorem sg_un {n : Int} (h : I64 n) : sg (un n) = n := by
  obtain ⟨h0, h1⟩ := h
  unfold sg un wrap64
  rw [IntKind.wrap_u64]
  omega
theorem byt8_val {z : Int} (h : U64 z) : valL (byt z 8) = z := valL_byt 8 z h.1 (by have := h.2; rw [show (256 : Int) ^ 8 = 18446744073709551616 by decide]; omega)
theorem numP_at {b xs : List Int} {k : Nat} {z : Int} (hd : b.drop k = byt z 8 ++ xs) (h : U64 z) : numP b k = z := by
  have hl : 8 ≤ (b.drop k).length := by rw [hd]; simp [byt_len]
  rw [List.length_drop] at hl
  unfold numP
  rw [if_neg (by omega), hd, List.take_left' (byt_len 8 z), byt8_val h]
theorem guidP_at {b g xs : List Int} {k : Nat} (hd : b.drop k = g ++ xs) (h : g.length = 16) : guidP b k = g := by
  have hl : 16 ≤ (b.drop k).length := by rw [hd]; simp [h]
  rw [List.length_drop] at hl
  unfold guidP gdP
  rw [hd, List.take_left' h, show 16 - min 16 (b.length - k) = 0 by omega]
  simp
theorem getD_drop (b : List Int) (k : Nat) : b.getD k 0 = (b.drop k).getD 0 0 := by simp [List.getD_eq_getElem?_getD, List.getElem?_drop]
theorem one8_at {b xs : List Int} {k : Nat} {x : Int} (hd : b.drop k = one8 x ++ xs) : b.getD k 0 = x := by rw [getD_drop, hd]; rfl
theorem dmore {xs ys b : List Int} {k m : Nat} (h : b.drop k = xs ++ ys) (hm : xs.length = m) : b.drop (k + m) = ys := by
  rw [← List.drop_drop, h, List.drop_left' hm]
theorem pk_ext {p q : Pk} (h0 : p.ki = q.ki) (h1 : p.fr = q.fr) (h2 : p.to = q.to) (h3 : p.sq = q.sq) (h4 : p.ca = q.ca) (h5 : p.ip = q.ip) (h6 : p.me = q.me) (h7 : p.n = q.n) (h8 : p.co = q.co) (h9 : p.rs = q.rs) : p = q := by
  cases p; cases q
  simp only at h0 h1 h2 h3 h4 h5 h6 h7 h8 h9
  subst h0 h1 h2 h3 h4 h5 h6 h7 h8 h9
  rfl
theorem hd8_at {b ys : List Int} {p : Pk} (h : b = hd8 p ++ ys) : b.getD 0 0 = p.ki ∧ b.getD 1 0 = p.fr ∧ b.getD 2 0 = p.to ∧ b.drop 8 = ys := by
  rw [h]; exact ⟨rfl, rfl, rfl, rfl⟩
set_option maxRecDepth 100000 in
theorem raw_form {p : Pk} (hp : PkOk p) (hr : rightP p = true) : rawP (formP p) = p ∧ ¬ shortP (formP p) := by
  have h16 := hp.ip.len
  obtain ⟨_, _, k0, k1⟩ := rightP_hd hr
  have hk : p.ki = 1 ∨ p.ki = 2 ∨ (p.ki = 3 ∨ p.ki = 4) ∨ p.ki = 5 := by omega
  rcases hk with hk | hk | hk | hk
  · obtain ⟨hl1, _, ho, hrr⟩ := rightP_1 hr hk
    have e := form_1 h16 hk
    have hlen : 64 ≤ (formP p).length := by rw [e]; simp [hd8, one8, byt_len, h16]; omega
    generalize formP p = b at *
    obtain ⟨q0, q1, q2, d8⟩ := hd8_at e
    have d16 : b.drop 16 = _ := dmore d8 (byt_len 8 p.sq)
    have d24 : b.drop 24 = _ := dmore d16 (byt_len 8 p.ca)
    have d40 : b.drop 40 = _ := dmore d24 h16
    have d48 : b.drop 48 = _ := dmore d40 (show (one8 p.me).length = 8 from rfl)
    have d56 : b.drop 56 = _ := dmore d48 (byt_len 8 (un p.n))
    have d64 : b.drop 64 = _ := dmore d56 (byt_len 8 p.rs.length)
    rw [hk] at q0
    refine ⟨pk_ext (by simp only [rawP, q0, hk]) q1 q2 (numP_at d8 hp.sq) ?_ ?_ ?_ ?_ ?_ ?_, ?_⟩
    · simp only [rawP, q0]; rw [if_pos (by simp)]; exact numP_at d16 hp.ca
    · simp only [rawP, q0]; rw [if_pos trivial]; exact guidP_at d24 h16
    · simp only [rawP, q0]; rw [if_pos trivial]; exact one8_at d40
    · simp only [rawP, q0]; rw [if_pos trivial, numP_at d48 (un_u64 p.n), sg_un hp.n]
    · simp only [rawP, q0]; rw [if_neg (by decide)]; exact ho.symm
    · simp only [rawP, q0]
      rw [numP_at d56 ⟨by omega, by omega⟩]
      match hq : p.rs with
      | [] => simp
      | [x] =>
        rw [hq] at hrr
        have hx : OrfOk x := hp.rs x (by rw [hq]; simp)
        have hrx : rightO x = true := by simpa using hrr
        have : b.drop 64 = frmO x := by rw [d64, refsP, hq]
        rw [this, decO_frm hx hrx]
        simp
      | x :: y :: t => rw [hq] at hl1; simp at hl1
    · unfold shortP; rw [q0]; omega
  · obtain ⟨hi, hm, hrs, _, _⟩ := rightP_2 hr hk
    have e := form_2 hk
    have hlen : (formP p).length = 40 := by rw [e]; simp [hd8, one8, byt_len]
    generalize formP p = b at *
    obtain ⟨q0, q1, q2, d8⟩ := hd8_at e
    have d16 : b.drop 16 = _ := dmore d8 (byt_len 8 p.sq)
    have d24 : b.drop 24 = _ := dmore d16 (byt_len 8 p.ca)
    have d32 : b.drop 32 = byt (un p.n) 8 ++ [] := by rw [List.append_nil]; exact dmore d24 (show (one8 p.co).length = 8 from rfl)
    rw [hk] at q0
    refine ⟨pk_ext (by simp only [rawP, q0, hk]) q1 q2 (numP_at d8 hp.sq) ?_ ?_ ?_ ?_ ?_ ?_, ?_⟩
    · simp only [rawP, q0]; rw [if_pos (by simp)]; exact numP_at d16 hp.ca
    · simp only [rawP, q0]; rw [if_neg (by decide), if_neg (by decide)]; exact hi.symm
    · simp only [rawP, q0]; rw [if_neg (by decide)]; exact hm.symm
    · simp only [rawP, q0]; rw [if_neg (by decide), if_pos (by simp), numP_at d32 (un_u64 p.n), sg_un hp.n]
    · simp only [rawP, q0]; rw [if_pos trivial]; exact one8_at d24
    · simp only [rawP, q0]; rw [if_neg (by simp)]; exact hrs.symm
    · unfold shortP; rw [q0]; omega
  · obtain ⟨hc, hm, ho, hrs, _, _⟩ := rightP_34 hr hk
    have e := form_34 h16 hk
    have hlen : (formP p).length = 40 := by rw [e]; simp [hd8, byt_len, h16]
    generalize formP p = b at *
    obtain ⟨q0, q1, q2, d8⟩ := hd8_at e
    have d16 : b.drop 16 = _ := dmore d8 (byt_len 8 p.sq)
    have d32 : b.drop 32 = byt (un p.n) 8 ++ [] := by rw [List.append_nil]; exact dmore d16 h16
    rw [← q0] at hk
    refine ⟨pk_ext (by simp only [rawP, q0]) q1 q2 (numP_at d8 hp.sq) ?_ ?_ ?_ ?_ ?_ ?_, ?_⟩
    · simp only [rawP]; rw [if_neg (by omega)]; exact hc.symm
    · simp only [rawP]; rw [if_neg (by omega), if_pos hk]; exact guidP_at d16 h16
    · simp only [rawP]; rw [if_neg (by omega)]; exact hm.symm
    · simp only [rawP]; rw [if_neg (by omega), if_pos (by omega), numP_at d32 (un_u64 p.n), sg_un hp.n]
    · simp only [rawP]; rw [if_neg (by omega)]; exact ho.symm
    · simp only [rawP]; rw [if_neg (by omega)]; exact hrs.symm
    · unfold shortP; omega
  · obtain ⟨hc, hi, hm, ho, hn, hrs⟩ := rightP_5 hr hk
    have e := form_5 hk
    have hlen : (formP p).length = 16 := by rw [e]; simp [hd8, byt_len]
    generalize formP p = b at *
    obtain ⟨q0, q1, q2, d8⟩ := hd8_at e
    have d8' : b.drop 8 = byt p.sq 8 ++ [] := by rw [List.append_nil]; exact d8
    rw [hk] at q0
    refine ⟨pk_ext (by simp only [rawP, q0, hk]) q1 q2 (numP_at d8' hp.sq) ?_ ?_ ?_ ?_ ?_ ?_, ?_⟩
    · simp only [rawP, q0]; rw [if_neg (by decide)]; exact hc.symm
    · simp only [rawP, q0]; rw [if_neg (by decide), if_neg (by decide)]; exact hi.symm
    · simp only [rawP, q0]; rw [if_neg (by decide)]; exact hm.symm
    · simp only [rawP, q0]; rw [if_neg (by decide), if_neg (by decide)]; exact hn.symm
    · simp only [rawP, q0]; rw [if_neg (by decide)]; exact ho.symm
    · simp only [rawP, q0]; rw [if_neg (by simp)]; exact hrs.symm
    · unfold shortP; rw [q0]; omega
/-- What has a form is read as it was. -/
theorem dec_form {p : Pk} (hp : PkOk p) (hr : rightP p = true) : decP (formP p) = (p, true) := by
  obtain ⟨h1, h2⟩ := raw_form hp hr
  rw [decP, if_neg h2, h1, if_pos ⟨hr, rfl⟩]
/-- What is read has that form, and is right. -/
theorem dec_inv {b : List Int} {p : Pk} (h : decP b = (p, true)) : rightP p = true ∧ formP p = b := by
  unfold decP at h
  split at h
  · cases h
  · split at h
    · rename_i h1
      cases h; exact h1
    · cases h
end Go.Proofs.Ytceeipejhmnkfaa

namespace Go.Proofs.Ytceeipejhmnkfaa
open Go Go.ChangeShapes Go.WideShapes Go.ChangeAt Go.RowKit

theorem decO_ok {b : List Int} (hb : Byt b) : OrfOk (decO b).1 := by
  unfold decO
  split
  · exact orZ_ok
  · split
    · exact orZ_ok
    · split
      · exact rdO_ok hb (by omega)
      · exact orZ_ok
theorem sg_i64 (z : Int) : I64 (sg z) := by
  unfold sg wrap64
  exact ⟨by omega, by omega⟩
theorem i64_byt {x : Int} (h : 0 ≤ x ∧ x ≤ 255) : I64 x := ⟨by omega, by omega⟩
theorem g0_isG : IsG g0 := orZ_ok.ip
theorem raw_ok {b : List Int} (hb : Byt b) : PkOk (rawP b) where
  ki := i64_byt (getD_byt hb 0)
  fr := i64_byt (getD_byt hb 1)
  to := i64_byt (getD_byt hb 2)
  sq := numP_u64 hb 8
  ca := by
    simp only [rawP]
    split
    · exact numP_u64 hb 16
    · exact ⟨by decide, by decide⟩
  ip := by
    simp only [rawP]
    split
    · exact gdP_isG hb (by omega)
    · split
      · exact gdP_isG hb (by omega)
      · exact g0_isG
  me := by
    simp only [rawP]
    split
    · exact i64_byt (getD_byt hb 40)
    · exact ⟨by decide, by decide⟩
  n := by
    simp only [rawP]
    split
    · exact sg_i64 _
    · split
      · exact sg_i64 _
      · exact ⟨by decide, by decide⟩
  co := by
    simp only [rawP]
    split
    · exact i64_byt (getD_byt hb 24)
    · exact ⟨by decide, by decide⟩
  rs := by
    simp only [rawP]
    split
    · intro x hx
      obtain rfl : x = (decO (b.drop 64)).1 := by simpa using hx
      exact decO_ok (hb.sub fun _ hy => List.mem_of_mem_drop hy)
    · intro x hx; cases hx
theorem pkZ_ok : PkOk pkZ := ⟨⟨by decide, by decide⟩, ⟨by decide, by decide⟩, ⟨by decide, by decide⟩, ⟨by decide, by decide⟩, ⟨by decide, by decide⟩, g0_isG, ⟨by decide, by decide⟩, ⟨by decide, by decide⟩, ⟨by decide, by decide⟩, fun x hx => by cases hx⟩
theorem dec_ok {b : List Int} (hb : Byt b) : PkOk (decP b).1 := by
  unfold decP
  split
  · exact pkZ_ok
  · split
    · exact raw_ok hb
    · exact pkZ_ok
theorem refs_len {p : Pk} (hp : PkOk p) (hl : p.rs.length ≤ 1) : (refsP p).length = 64 * p.rs.length := by
  unfold refsP
  match hq : p.rs with
  | [] => rfl
  | [x] => exact frmO_len (hp.rs x (by rw [hq]; simp))
  | x :: y :: t => rw [hq] at hl; simp at hl
theorem form_len {p : Pk} (hp : PkOk p) (hr : rightP p = true) : (formP p).length = if p.ki = 1 then 64 + 64 * p.rs.length else if p.ki = 5 then 16 else 40 := by
  have h16 := hp.ip.len
  obtain ⟨_, _, k0, k1⟩ := rightP_hd hr
  have hk : p.ki = 1 ∨ p.ki = 2 ∨ (p.ki = 3 ∨ p.ki = 4) ∨ p.ki = 5 := by omega
  rcases hk with hk | hk | hk | hk
  · rw [if_pos hk, form_1 h16 hk]
    have := refs_len hp (rightP_1 hr hk).1
    simp [hd8, one8, byt_len, h16]
    omega
  · rw [if_neg (by omega), if_neg (by omega), form_2 hk]; simp [hd8, one8, byt_len]
  · rw [if_neg (by omega), if_neg (by omega), form_34 h16 hk]; simp [hd8, byt_len, h16]
  · rw [if_neg (by omega), if_pos hk, form_5 hk]; simp [hd8, byt_len]
theorem form_hd {p : Pk} (hr : rightP p = true) (h16 : p.ip.length = 16) (zs : List Int) : (formP p ++ zs).getD 0 0 = p.ki := by
  obtain ⟨_, _, k0, k1⟩ := rightP_hd hr
  have hk : p.ki = 1 ∨ p.ki = 2 ∨ (p.ki = 3 ∨ p.ki = 4) ∨ p.ki = 5 := by omega
  rcases hk with hk | hk | hk | hk
  · rw [form_1 h16 hk]; rfl
  · rw [form_2 hk]; rfl
  · rw [form_34 h16 hk]; rfl
  · rw [form_5 hk]; rfl
theorem form_n56 {p : Pk} (hr : rightP p = true) (h16 : p.ip.length = 16) (hk : p.ki = 1) (zs : List Int) : numP (formP p ++ zs) 56 = p.rs.length := by
  have hl1 := (rightP_1 hr hk).1
  have e := form_1 h16 hk
  generalize formP p = b at *
  obtain ⟨_, _, _, d8⟩ := hd8_at (ys := byt p.sq 8 ++ (byt p.ca 8 ++ (p.ip ++ (one8 p.me ++ (byt (un p.n) 8 ++ (byt p.rs.length 8 ++ (refsP p ++ zs)))))) ) (b := b ++ zs) (p := p) (by rw [e]; simp)
  have d16 : (b ++ zs).drop 16 = _ := dmore d8 (byt_len 8 p.sq)
  have d24 : (b ++ zs).drop 24 = _ := dmore d16 (byt_len 8 p.ca)
  have d40 : (b ++ zs).drop 40 = _ := dmore d24 h16
  have d48 : (b ++ zs).drop 48 = _ := dmore d40 (show (one8 p.me).length = 8 from rfl)
  have d56 : (b ++ zs).drop 56 = _ := dmore d48 (byt_len 8 (un p.n))
  exact numP_at d56 ⟨by omega, by omega⟩
/-- No form begins another. -/
theorem form_prefix {p q : Pk} (hp : PkOk p) (hq : PkOk q) (hr : rightP p = true) (hs : rightP q = true) {zs : List Int} (h : formP p = formP q ++ zs) : zs = [] := by
  have h1 := form_hd hr hp.ip.len []
  have h2 := form_hd hs hq.ip.len zs
  rw [List.append_nil, h, h2] at h1
  have l1 := form_len hp hr
  have l2 := form_len hq hs
  rw [h, List.length_append, ← h1] at l1
  have hz : zs.length = 0 := by
    by_cases hk : q.ki = 1
    · have n1 := form_n56 hr hp.ip.len (by omega) []
      have n2 := form_n56 hs hq.ip.len hk zs
      rw [List.append_nil, h, n2] at n1
      rw [if_pos hk] at l1 l2
      omega
    · rw [if_neg hk] at l1 l2
      omega
  exact List.eq_nil_of_length_eq_zero hz
theorem form_byt {p : Pk} (hp : PkOk p) (hr : rightP p = true) : Byt (formP p) := by
  have h16 := hp.ip.len
  obtain ⟨⟨f0, f1⟩, ⟨t0, t1⟩, k0, k1⟩ := rightP_hd hr
  have hb8 : ∀ x : Int, 0 ≤ x ∧ x ≤ 255 → Byt (one8 x) := fun x hx y hy => by
    simp only [one8, List.mem_cons, List.not_mem_nil, or_false] at hy
    omega
  have hh : Byt (hd8 p) := fun y hy => by
    simp only [hd8, List.mem_cons, List.not_mem_nil, or_false] at hy
    omega
  have hk : p.ki = 1 ∨ p.ki = 2 ∨ (p.ki = 3 ∨ p.ki = 4) ∨ p.ki = 5 := by omega
  rcases hk with hk | hk | hk | hk
  · obtain ⟨hl1, ⟨m0, m1⟩, _, _⟩ := rightP_1 hr hk
    have hrf : Byt (refsP p) := by
      unfold refsP
      match hq : p.rs with
      | [] => intro y hy; cases hy
      | [x] => exact frmO_byt (hp.rs x (by rw [hq]; simp))
      | x :: y :: t => rw [hq] at hl1; simp at hl1
    rw [form_1 h16 hk]
    exact hh.app ((byt_ok _ _).app ((byt_ok _ _).app (hp.ip.byt.app ((hb8 _ ⟨m0, by omega⟩).app ((byt_ok _ _).app ((byt_ok _ _).app hrf))))))
  · obtain ⟨_, _, _, o0, o1⟩ := rightP_2 hr hk
    rw [form_2 hk]
    exact hh.app ((byt_ok _ _).app ((byt_ok _ _).app ((hb8 _ ⟨o0, by omega⟩).app (byt_ok _ _))))
  · rw [form_34 h16 hk]
    exact hh.app ((byt_ok _ _).app (hp.ip.byt.app (byt_ok _ _)))
  · rw [form_5 hk]
    exact hh.app (byt_ok _ _)
/-- Cut short it is none. -/
theorem dec_cut {p : Pk} (hp : PkOk p) (hr : rightP p = true) {c : Nat} (hc : c < (formP p).length) : (decP ((formP p).take c)).2 = false := by
  cases hd : (decP ((formP p).take c)).2
  · rfl
  · exfalso
    have hq : decP ((formP p).take c) = ((decP ((formP p).take c)).1, true) := by rw [← hd]
    obtain ⟨h1, h2⟩ := dec_inv hq
    have hok : PkOk (decP ((formP p).take c)).1 := dec_ok ((form_byt hp hr).sub fun _ hy => List.mem_of_mem_take hy)
    have h3 := form_prefix hp hok hr h1 (zs := (formP p).drop c) (by rw [h2, List.take_append_drop])
    have := congrArg List.length h3
    rw [List.length_drop, List.length_nil] at this
    omega
/-- With a byte more it is none. -/
theorem dec_more {p : Pk} (hp : PkOk p) (hr : rightP p = true) {x : Int} (hx : 0 ≤ x ∧ x ≤ 255) : (decP (formP p ++ [x])).2 = false := by
  cases hd : (decP (formP p ++ [x])).2
  · rfl
  · exfalso
    have hq : decP (formP p ++ [x]) = ((decP (formP p ++ [x])).1, true) := by rw [← hd]
    obtain ⟨h1, h2⟩ := dec_inv hq
    have hok : PkOk (decP (formP p ++ [x])).1 := dec_ok ((form_byt hp hr).app (fun y hy => by rw [show y = x by simpa using hy]; exact hx))
    have h3 := form_prefix hok hp h1 hr h2
    cases h3
end Go.Proofs.Ytceeipejhmnkfaa
